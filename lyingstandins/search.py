"""A search over what rows of events tell, and where they end."""

from lyingstandins.fields import events
from lyingstandins.promises import NOTHING_TOLD, breaks_shut, broken_about, told_after
from lyingstandins.relations import EVERYWHERE, bits, image, origins


def _breaks(told, event, promises):
    """True if the event breaks one of the promises, after what was told of `a`."""
    if "shut" in promises and told[0] and breaks_shut(event):
        return True
    return any([promise in promises for promise in broken_about(told, event, "a")])


def _moves(told, promises):
    """What each event leaves told, in order; None for the events that break a promise."""
    return [None if _breaks(told, event, promises) else told_after(told, event, "a") for event in events()]


class Search:
    """A search by levels: level k has what rows of k events reach, and no shorter row.

    `leads` has the relation of each event. A level is a dict from what was told to the
    mask of the standings that rows of events end in, with none of them a break.
    """

    def __init__(self, leads, promises):
        self._leads = leads
        self._promises = promises
        self._moves_by_told = {}
        self._levels = [{NOTHING_TOLD: EVERYWHERE}]
        self._reached = {NOTHING_TOLD: EVERYWHERE}

    def all_reached(self):
        """The pairs of what was told and the mask of the standings reached so."""
        while self._levels[-1]:
            self._add_level()
        return list(self._reached.items())

    def shortest_break(self):
        """The steps `(event index, before, after)` of a shortest row that ends in a break, or None."""
        while self._levels[-1]:
            last = self._break_after(self._levels[-1])
            if last is not None:
                return self._steps_to(last)
            self._add_level()
        return None

    def _moves_after(self, told):
        if told not in self._moves_by_told:
            self._moves_by_told[told] = _moves(told, self._promises)
        return self._moves_by_told[told]

    def _add_level(self):
        level = {}
        for told, mask in self._levels[-1].items():
            for at, after in enumerate(self._moves_after(told)):
                if after is not None:
                    fresh = image(self._leads[at], mask) & ~self._reached.get(after, 0)
                    level[after] = level.get(after, 0) | fresh
        self._levels.append({told: level[told] for told in level if level[told]})
        for told, mask in level.items():
            self._reached[told] = self._reached.get(told, 0) | mask

    def _break_after(self, level):
        """The step `(told, event index, before, after)` of a break right after the level, or None."""
        for told, mask in level.items():
            for at, move in enumerate(self._moves_after(told)):
                if move is None and image(self._leads[at], mask):
                    after = bits(image(self._leads[at], mask))[0]
                    return (told, at, self._origin(at, mask, after), after)
        return None

    def _step_to(self, level, goal, after):
        """A step like those, right after the level, to what is told in `goal` and to this standing."""
        for told, mask in level.items():
            for at, move in enumerate(self._moves_after(told)):
                if move == goal and image(self._leads[at], mask) >> after & 1:
                    return (told, at, self._origin(at, mask, after), after)
        return None

    def _origin(self, at, mask, after):
        """The first standing in the mask from which the event leads to after."""
        return bits(mask & origins(self._leads[at], after))[0]

    def _steps_to(self, last):
        """The steps from the first level to this last one."""
        told, at, before, after = last
        steps = [(at, before, after)]
        # Each level before the last step has only what no shorter row reaches, so that
        # the step into it starts in the level before it.
        for level in reversed(list(self._levels[:-1])):
            told, at, before, after = self._step_to(level, told, before)
            steps = [(at, before, after), *steps]
        return steps
