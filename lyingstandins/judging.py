"""The judge: whether a later answer can break a promise, for all stand-ins and things."""

from lyingstandins.errors import Unfair
from lyingstandins.fields import events, is_true, possible_answers, standings
from lyingstandins.layers import ISSHUTS, LOOKS, ground_layer, layer_above, layers_to, telling
from lyingstandins.refusals import refused_at
from lyingstandins.relations import EVERYWHERE, bits, image
from lyingstandins.search import Search


def _lie(layers, promises):
    """A shortest lie at the depth of the last layer, or None."""
    steps = Search(layers[-1].leads, promises).shortest_break()
    if steps is None:
        return None
    return [telling(layers, at, before, after) for at, before, after in steps]


class Judge:
    """Judges all stand-ins of one depth under the checks that a book has now."""

    def __init__(self, book, *, depth=1):
        self._checks = list(book)
        self._layers = layers_to(self._checks, depth)

    def pairs(self, event):
        """Yield the `(before, after)` between which the event leads, in order."""
        places = standings()
        for at, mask in enumerate(self._relation(event)):
            for after in bits(mask):
                yield (places[at], places[after])

    def lie(self, promises):
        """A shortest lie about the promises, as a list of tellings, or None."""
        return _lie(self._layers, promises)

    def table(self, promises):
        """All `(standing, told)` in which rows of tellings end that break no promise."""
        places = standings()
        reached = Search(self._layers[-1].leads, promises).all_reached()
        return [(places[at], told) for told, mask in reached for at in bits(mask)]

    def answers(self, row, deed):
        """The answers to the deed, in order, that can be told right after the row of events."""
        mask = EVERYWHERE
        for event in row:
            mask = image(self._relation(event), mask)
        return [answer for answer in possible_answers(deed) if image(self._relation((deed, answer)), mask)]

    def _relation(self, event):
        """How the event leads from standing to standing at the judge's depth."""
        return self._layers[-1].relation(event, EVERYWHERE & ~refused_at(self._checks, event))


def _unfair_event(checks):
    """The first answer to look or isshut that is refused where it is true, or None."""
    happenings = events()
    for event in [*happenings[:LOOKS], *happenings[ISSHUTS:]]:
        refused = refused_at(checks, event)
        if any([refused >> at & 1 and is_true(event, place) for at, place in enumerate(standings())]):
            return event
    return None


def first_lie(book, promises):
    """`(depth, lie)` with a shortest lie of the least depth that has one, or None."""
    checks = list(book)
    unfair = _unfair_event(checks)
    if unfair is not None:
        raise Unfair(unfair)
    layers = [ground_layer(checks)]
    while True:
        lie = _lie(layers, promises)
        if lie is not None:
            return (len(layers), lie)
        # What can be told at a depth can be told at the next one, as true answers are
        # let by. Where the next depth adds nothing, no later one does.
        above = layer_above(layers[-1])
        if above.leads == layers[-1].leads:
            return None
        layers.append(above)
