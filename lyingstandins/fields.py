"""A plain thing as far as one name goes: its standings, deeds and events."""

NAMES = ("a", "b", "c", "d", "e", "f", "g", "h")
VALUES = (0, 1)
FLAGS = (False, True)


def standings():
    """The 18 standings of the field `a`, in order."""
    return [(field, shut) for field in _fields_or_none() for shut in FLAGS]


def events():
    """The 42 events on the field `a`, in order."""
    return [(deed, answer) for deed in deeds() for answer in possible_answers(deed)]


def deeds():
    """The deeds whose events are judged, in order."""
    sets = [("set", "a", value) for value in VALUES]
    defines = [("define", "a", *field) for field in _fields()]
    return [
        ("look", "a"),
        ("has", "a"),
        ("get", "a"),
        *sets,
        *defines,
        ("take", "a"),
        ("names",),
        ("shut",),
        ("isshut",),
    ]


def possible_answers(deed):
    """The answers that a stand-in may give to one of `deeds()`, in order."""
    kind = deed[0]
    if kind == "look":
        return _fields_or_none()
    if kind == "get":
        return [None, *VALUES]
    if kind == "names":
        return [(), ("a",)]
    # A stand-in may answer False even to shut, which a plain thing never does.
    return list(FLAGS)


def _fields():
    return [(value, changes, goes) for value in VALUES for changes in FLAGS for goes in FLAGS]


def _fields_or_none():
    fields = _fields()
    return [None, *fields]


def act(standing, deed):
    """The answer of a plain thing to the deed, and its standing afterwards.

    Names are answered as by a thing that can have no field but `a`.
    """
    field, shut = standing
    kind = deed[0]
    if kind in ("set", "define", "take"):
        if not _is_done(field, shut, deed):
            return (False, standing)
        return (True, (_field_after(field, deed), shut))
    if kind == "shut":
        return (True, (field, True))
    return (_reading(field, shut, kind), standing)


def _is_done(field, shut, deed):
    """True if a plain thing does this set, define or take."""
    kind = deed[0]
    if kind == "take":
        return field is None or field[2]
    if field is None:
        return not shut
    if kind == "set":
        return field[1]
    return _can_replace(field, deed[2:])


def _can_replace(old, new):
    """True if a define may put the new field in the place of the old one."""
    return old[2] or (not new[2] and (old[1] or old == new))


def _field_after(field, deed):
    """The field after a set, define or take that was done."""
    kind = deed[0]
    if kind == "take":
        return None
    if kind == "define":
        return deed[2:]
    if field is None:
        return (deed[2], True, True)
    return (deed[2], field[1], field[2])


def _reading(field, shut, kind):
    """The answer to a deed that changes nothing."""
    if kind == "look":
        return field
    if kind == "has":
        return field is not None
    if kind == "get":
        return None if field is None else field[0]
    if kind == "names":
        return () if field is None else ("a",)
    return shut


def can_pass(before, after):
    """True if some row of deeds leads a plain thing from before to after."""
    old, shut_before = before
    new, shut_after = after
    if shut_before and not shut_after:
        return False
    if old == new:
        return True
    # What is missing can still come before the thing is shut, and one define
    # reaches whatever several deeds on the field can reach.
    if old is None:
        return not shut_before
    if new is None:
        return old[2]
    return _can_replace(old, new)


def way(before, after):
    """Yield the fewest deeds by which before passes into after; none if it cannot."""
    if not can_pass(before, after):
        return
    old, shut_before = before
    new, shut_after = after
    if old != new:
        if new is None:
            yield ("take", "a")
        else:
            yield ("define", "a", *new)
    if shut_after and not shut_before:
        yield ("shut",)


def is_true(event, standing):
    """True if a plain thing can give this answer and is left in this standing."""
    deed, answer = event
    return any([act(before, deed) == (answer, standing) for before in standings()])
