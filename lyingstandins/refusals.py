"""Which checks refuse an event, and at which standings."""

from lyingstandins.checks import event_words, shown_words
from lyingstandins.fields import events, standings
from lyingstandins.relations import mask_of


def name_of(deed, name="a"):
    """The name of the deed; of a deed without one, the name that is passed."""
    return deed[1] if len(deed) > 1 else name


def first_refusal(checks, event, shown, name):
    """The first check that refuses the event with the standing shown behind, or None."""
    seen = shown_words(event, shown, name)
    for check in _claimed(checks, event, name):
        if _within(check[2], seen):
            return check
    return None


def refused_at(checks, event):
    """The mask of the standings at which one of the checks refuses the event."""
    name = name_of(event[0])
    claimed = _claimed(checks, event, name)
    return mask_of([_is_met(claimed, shown_words(event, shown, name)) for shown in standings()])


def refusals(checks):
    """For each of the 42 events, in order, the mask of the standings where it is refused."""
    return [refused_at(checks, event) for event in events()]


def _claimed(checks, event, name):
    """The checks of the deed's kind whose claim the event meets."""
    deed, _ = event
    said = event_words(event, name)
    return [check for check in checks if check[0] == deed[0] and _within(check[1], said)]


def _is_met(checks, seen):
    return any([_within(check[2], seen) for check in checks])


def _within(words, given):
    return all([word in given for word in words])
