"""Books of checks."""

from lyingstandins.checks import parse_check
from lyingstandins.promises import PROMISES
from lyingstandins.refusals import first_refusal, name_of, refusals

# What a fair book has to refuse about each promise, and no more. It lets true answers
# by, so it must refuse to tell a promise wherever a true answer may break it later,
# and to break one wherever a true answer may have told it before.
FREEST = {
    "shut": (
        "shut done if open",
        "isshut shut if open",
        "isshut open if shut",
    ),
    "stays": (
        "look stays if gone",
        "look stays if goes",
        "define done stays if gone",
        "define done stays if goes",
        "look gone if stays",
        "look goes if stays",
        "has gone if stays",
        "get gone if stays",
        "define done goes if stays",
        "take done if stays",
        "names gone if stays",
    ),
    # No word tells one value from another where there is no field, so that a field
    # that is told there would be told with both values.
    "fixed": (
        "look firm stays if gone",
        "look firm stays if changes",
        "look firm stays if goes",
        "define done firm stays if gone",
        "define done firm stays if changes",
        "define done firm stays if goes",
        "look changes if firm stays",
        "look there if firm stays other",
        "get there if firm stays other",
        "set done if firm stays other",
        "define done changes if firm stays",
        "define done if firm stays other",
    ),
    # Nothing can come where a true answer has told that there is no field, and that
    # the thing is shut. Where it is open, no event may have told that it is shut.
    "never": (
        "shut done if open",
        "isshut shut if open",
        "look gone if there shut",
        "has gone if there shut",
        "get gone if there shut",
        "take done if there shut",
        "names gone if there shut",
        "look there if gone shut",
        "has there if gone shut",
        "get there if gone shut",
        "set done if gone shut",
        "define done if gone shut",
        "names there if gone shut",
    ),
}


def _different(checks):
    """The tuple of the checks, each at its first place."""
    return tuple({check: True for check in checks})


class Book:
    """Different checks, in order, that refuse some events."""

    def __init__(self, checks):
        # A tuple, so that a loop over a book sees the checks that it began with.
        self._checks = _different(checks)

    def __len__(self):
        return len(self._checks)

    def __iter__(self):
        return iter(self._checks)

    def __contains__(self, check):
        return check in self._checks

    def __and__(self, other):
        """The book of the checks that the other book has, too."""
        return Book([check for check in self._checks if check in other])

    def __sub__(self, other):
        """The book of the checks that the other book does not have."""
        return Book([check for check in self._checks if check not in other])

    def __ior__(self, other):
        """Add the other book's other checks at the end of this very object."""
        self._checks = _different([*self._checks, *other])
        return self

    def __le__(self, other):
        """True if the other book lets by each event that this one lets by, at each standing."""
        return all([theirs & ~mine == 0 for mine, theirs in zip(refusals(self), refusals(other))])

    def refuser(self, event, shown, *, name="a"):
        """The first check that refuses the event with the standing shown behind, or None."""
        return first_refusal(self._checks, event, shown, name_of(event[0], name))

    @classmethod
    def parsed(cls, lines):
        """The book of the written checks; BadCheck with the first line that is none."""
        return cls([parse_check(line) for line in lines])

    @staticmethod
    def freest(promises):
        """The fair book that refuses least, without a lie of depth 1 about the promises."""
        chosen = [promise for promise in PROMISES if promise in promises]
        return Book([parse_check(line) for promise in chosen for line in FREEST[promise]])
