"""The forms of answers."""

from lyingstandins.fields import NAMES


def has_form(deed, answer):
    """True if the answer has the form of the answers to the deed."""
    kind = deed[0]
    if kind == "look":
        return answer is None or _is_field(answer)
    if kind == "get":
        return answer is None or _is_value(answer)
    if kind == "names":
        return isinstance(answer, tuple) and all([_is_name_once(name, answer) for name in answer])
    return isinstance(answer, bool)


def _is_field(worth):
    if not isinstance(worth, tuple) or len(worth) != 3:
        return False
    value, changes, goes = worth
    return _is_value(value) and isinstance(changes, bool) and isinstance(goes, bool)


def _is_value(worth):
    # Python counts True and False among the integers.
    return isinstance(worth, int) and not isinstance(worth, bool) and 0 <= worth <= 9


def _is_name_once(name, answer):
    return name in NAMES and answer.count(name) == 1
