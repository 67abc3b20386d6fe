"""What events deny, show and tell, and the promises that they tell and break."""

from lyingstandins.fields import NAMES

PROMISES = ("shut", "stays", "fixed", "never")
NOTHING_TOLD = (False, False, None, False)


def is_about(deed, name):
    """True if the deed is about this one name."""
    return len(deed) > 1 and deed[1] == name


def denies(event, name):
    """True if the event denies that there is a field of the name."""
    deed, answer = event
    kind = deed[0]
    if kind == "names":
        return name not in answer
    if not is_about(deed, name):
        return False
    if kind in ("look", "get"):
        return answer is None
    if kind == "has":
        return answer is False
    return kind == "take" and answer is True


def shows(event, name):
    """True if the event shows that there is a field of the name."""
    deed, answer = event
    kind = deed[0]
    if kind == "names":
        return name in answer
    if not is_about(deed, name):
        return False
    if kind in ("look", "get"):
        return answer is not None
    return kind in ("has", "set", "define") and answer is True


def field_in(event, name):
    """The field that a look answers or that a define asks for, or None."""
    deed, answer = event
    if not is_about(deed, name):
        return None
    if deed[0] == "look":
        return answer
    if deed[0] == "define":
        return deed[2:]
    return None


def value_in(event, name):
    """The value that a look or get answers or that a set or define asks for, or None."""
    deed, answer = event
    field = field_in(event, name)
    if field is not None:
        return field[0]
    if not is_about(deed, name):
        return None
    if deed[0] == "get":
        return answer
    if deed[0] == "set":
        return deed[2]
    return None


def _is_refusal(event):
    # What a set or define only asked for is not told by the answer False.
    _, answer = event
    return answer is False


def _told_field(event, name):
    return None if _is_refusal(event) else field_in(event, name)


def _told_value(event, name):
    return None if _is_refusal(event) else value_in(event, name)


def tells_shut(event):
    """True if the event tells the promise `shut`."""
    deed, answer = event
    return deed[0] in ("shut", "isshut") and answer is True


def breaks_shut(event):
    """True if the event breaks the promise `shut`, once it is told."""
    deed, answer = event
    return deed[0] == "isshut" and answer is False


def _breaks_stays(event, name):
    field = _told_field(event, name)
    return denies(event, name) or (field is not None and field[2])


def _breaks_fixed(event, name, fixed):
    field = _told_field(event, name)
    if field is not None and field[1]:
        return True
    value = _told_value(event, name)
    return value is not None and value != fixed


def broken_about(told, event, name):
    """The promises about the name that the event breaks, as in PROMISES.

    `told` is `(shut, stays, fixed, never)` as the earlier events told it.
    """
    _, stays, fixed, never = told
    broken = []
    if stays and _breaks_stays(event, name):
        broken.append("stays")
    if fixed is not None and _breaks_fixed(event, name, fixed):
        broken.append("fixed")
    if never and shows(event, name):
        broken.append("never")
    return broken


def told_after(told, event, name):
    """What is told about the name, as `(shut, stays, fixed, never)`, after the event."""
    shut, stays, fixed, never = told
    field = _told_field(event, name)
    if field is not None and not field[2]:
        stays = True
        # Only the first such field gives the fixed value.
        if fixed is None and not field[1]:
            fixed = field[0]
    if shut and denies(event, name):
        never = True
    return (shut or tells_shut(event), stays, fixed, never)


class Memory:
    """The promises that a row of events has told so far."""

    def __init__(self):
        self._by_name = {name: NOTHING_TOLD for name in NAMES}

    def hear(self, event):
        """Take the next event; return the pairs `(promise, name)` that it breaks."""
        broken = []
        # `shut` is about no name, so each name has the same said of it.
        if self._by_name["a"][0] and breaks_shut(event):
            broken.append(("shut", ""))
        for name in NAMES:
            for promise in broken_about(self._by_name[name], event, name):
                broken.append((promise, name))
        self._by_name = {name: told_after(self._by_name[name], event, name) for name in NAMES}
        return broken

    def told(self, name):
        """`(shut, stays, fixed, never)` of the name; for fixed the value or None."""
        return self._by_name[name]
