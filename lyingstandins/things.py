"""Plain things, scripts, and the stand-ins that answer for a thing."""

from lyingstandins.errors import BadAnswer, Lie, Promise, Refused
from lyingstandins.fields import NAMES, act
from lyingstandins.forms import has_form


class Deeds:
    """What can be asked deeds."""

    def shown(self, name):
        """The pair of the answers to look and then to isshut."""
        field = self.ask(("look", name))
        return (field, self.ask(("isshut",)))


class Recorded:
    """What records events."""

    def __init__(self):
        self._history = []

    @property
    def history(self):
        """The recorded events, in a new list."""
        return list(self._history)

    def _keep(self, event):
        self._history.append(event)


def _with_field(fields, name, field):
    """The fields with this one in its place, or at the end; without it if it is None."""
    if field is None:
        return {other: fields[other] for other in fields if other != name}
    return {**fields, name: field}


class Thing(Deeds, Recorded):
    """A plain thing."""

    def __init__(self, rows=()):
        Recorded.__init__(self)
        # A change puts another dict in the place of this one, so that a loop over the
        # names sees those that it began with.
        self._fields = {name: (value, changes, goes) for name, value, changes, goes in rows}
        self._shut = False

    def ask(self, deed):
        """Do the deed, record the event and return the answer."""
        answer = self._done(deed)
        self._keep((deed, answer))
        return answer

    def _done(self, deed):
        if deed == ("names",):
            return tuple(self._fields)
        name = deed[1] if len(deed) > 1 else None
        answer, (field, shut) = act((self._fields.get(name), self._shut), deed)
        self._shut = shut
        if name is not None:
            self._fields = _with_field(self._fields, name, field)
        return answer

    def __getitem__(self, name):
        """The value, or None."""
        field = self._fields.get(name)
        return None if field is None else field[0]

    def __setitem__(self, name, value):
        """Ask a set; Refused if the answer is False."""
        deed = ("set", name, value)
        if not self.ask(deed):
            raise Refused(deed)

    def __contains__(self, name):
        return name in self._fields

    def __iter__(self):
        return iter(self._fields)

    def __bool__(self):
        return self._shut is True

    @property
    def is_shut(self):
        """True if the thing is shut; True shuts it, False is Refused where it is shut."""
        return self._shut

    @is_shut.setter
    def is_shut(self, value):
        if value:
            self.ask(("shut",))
        elif self._shut:
            raise Refused(("shut",))


def _copied(answer):
    """The answer, with a copy of each list in it."""
    if isinstance(answer, list):
        return [_copied(part) for part in answer]
    if isinstance(answer, tuple):
        return tuple([_copied(part) for part in answer])
    return answer


class Script:
    """Rows that say what to do first, and what to answer, when a deed is asked."""

    def __init__(self, rows=()):
        self._rows = [(deed, tuple(first), _copied(answer)) for deed, first, answer in rows]

    def __call__(self, behind, deed):
        """The answer to the deed, with the thing behind at hand."""
        row = self._used_up(deed)
        if row is None:
            return behind.ask(deed)
        _, first, answer = row
        for earlier in first:
            behind.ask(earlier)
        if answer == "true":
            return behind.ask(deed)
        return answer

    def _used_up(self, deed):
        """The first unused row with an equal deed, no longer unused; None if there is none."""
        for at, row in enumerate(list(self._rows)):
            if row[0] == deed:
                del self._rows[at]
                return row
        return None

    @property
    def left(self):
        """The number of unused rows."""
        return len(self._rows)


class StandIn(Deeds, Recorded):
    """A stand-in for what is behind, kept honest by a book."""

    def __init__(self, behind, script, book):
        Recorded.__init__(self)
        self._behind = behind
        self._script = script
        self._book = book

    def ask(self, deed):
        """The script's answer; BadAnswer or Lie if it has a wrong form or is refused."""
        answer = self._script(self._behind, deed)
        if not has_form(deed, answer):
            raise BadAnswer(deed, answer)
        event = (deed, answer)
        for name, shown in self._shown_behind(deed):
            check = self._book.refuser(event, shown, name=name)
            if check is not None:
                raise Lie(deed, answer, check) from Promise(check)
        self._keep(event)
        return answer

    def _shown_behind(self, deed):
        """The pairs of a name that the deed is about and what the thing behind shows of it."""
        behind = self._behind
        if deed in (("shut",), ("isshut",)):
            return [("a", (None, behind.ask(("isshut",))))]
        names = NAMES if deed == ("names",) else (deed[1],)
        fields = [behind.ask(("look", name)) for name in names]
        shut = behind.ask(("isshut",))
        return [(name, (field, shut)) for name, field in zip(names, fields)]
