"""The words of the document done step by step, without the program, for the tests.

Nothing here imports the program. It is slow and plain on purpose: sets of tuples, and
searches over everything, where the program uses masks.
"""

import functools
import itertools

NAMES = tuple("abcdefgh")
FLAGS = [(False, False), (False, True), (True, False), (True, True)]
FIELDS = [(value, *flags) for value in (0, 1) for flags in FLAGS]
STANDINGS = [(field, shut) for field in [None, *FIELDS] for shut in (False, True)]
DEEDS = [
    ("look", "a"),
    ("has", "a"),
    ("get", "a"),
    ("set", "a", 0),
    ("set", "a", 1),
    *[("define", "a", *field) for field in FIELDS],
    ("take", "a"),
    ("names",),
    ("shut",),
    ("isshut",),
]
ANSWERS = {"look": [None, *FIELDS], "get": [None, 0, 1], "names": [(), ("a",)]}
EVENTS = [(deed, answer) for deed in DEEDS for answer in ANSWERS.get(deed[0], [False, True])]
LOOKS = EVENTS[:9]
ISSHUTS = EVENTS[40:]
PROMISES = ("shut", "stays", "fixed", "never")
PROMISE_LISTS = [list(some) for many in range(5) for some in itertools.combinations(PROMISES, many)]


class PlainThing:
    """A plain thing by the words of [2] and [3]: a list of rows, in the order of the names."""

    def __init__(self, rows=(), shut=False):
        self.rows = [tuple(row) for row in rows]
        self.shut = shut

    def find(self, name):
        for at, row in enumerate(self.rows):
            if row[0] == name:
                return at
        return None

    def ask(self, deed):
        kind = deed[0]
        if kind == "names":
            return tuple(row[0] for row in self.rows)
        if kind == "shut":
            self.shut = True
            return True
        if kind == "isshut":
            return self.shut
        at = self.find(deed[1])
        field = None if at is None else self.rows[at][1:]
        return getattr(self, kind)(at, field, deed)

    def look(self, at, field, deed):
        return field

    def has(self, at, field, deed):
        return field is not None

    def get(self, at, field, deed):
        return None if field is None else field[0]

    def set(self, at, field, deed):
        if field is not None and field[1]:
            self.rows[at] = (deed[1], deed[2], field[1], field[2])
            return True
        if field is None and not self.shut:
            self.rows.append((deed[1], deed[2], True, True))
            return True
        return False

    def define(self, at, field, deed):
        new = deed[2:]
        if field is None:
            if self.shut:
                return False
            self.rows.append((deed[1], *new))
            return True
        old_goes, new_goes = field[2], new[2]
        if old_goes or (not old_goes and not new_goes and (field[1] or field == new)):
            self.rows[at] = (deed[1], *new)
            return True
        return False

    def take(self, at, field, deed):
        if field is not None:
            if not field[2]:
                return False
            del self.rows[at]
        return True


def done(standing, deed):
    """The answer of a plain thing in the standing, with no field but `a`, and its standing after."""
    field, shut = standing
    thing = PlainThing([] if field is None else [("a", *field)], shut)
    answer = thing.ask(deed)
    return answer, (thing.rows[0][1:] if thing.rows else None, thing.shut)


def _reachable(before):
    found = [before]
    for standing in found:
        for deed in DEEDS:
            after = done(standing, deed)[1]
            if after not in found:
                found.append(after)
    return found


REACHABLE = {before: _reachable(before) for before in STANDINGS}
TRUE = {((deed, done(before, deed)[0]), done(before, deed)[1]) for before in STANDINGS for deed in DEEDS}


def field_words(field):
    return {"changes" if field[1] else "firm", "goes" if field[2] else "stays"}


def words_of_event(event, name):
    """The words of the event about the name, as a set ([6])."""
    deed, answer = event
    kind = deed[0]
    if kind == "look":
        return {"gone"} if answer is None else {"there"} | field_words(answer)
    if kind == "has":
        return {"there" if answer else "gone"}
    if kind == "get":
        return {"gone" if answer is None else "there"}
    if kind == "names":
        return {"there" if name in answer else "gone"}
    if kind == "isshut":
        return {"shut" if answer else "open"}
    words = {"done" if answer else "not"}
    return words | field_words(deed[2:]) if kind == "define" else words


def words_shown(event, shown):
    """The words of what is shown behind the event, as a set ([6])."""
    (deed, answer), (field, shut) = event, shown
    words = {"shut" if shut else "open"}
    if field is None:
        return words | {"gone"}
    words |= {"there"} | field_words(field)
    value = None
    if deed[0] == "look" and answer is not None:
        value = answer[0]
    if deed[0] == "get":
        value = answer
    if deed[0] in ("set", "define"):
        value = deed[2]
    return words | {"other"} if value is not None and value != field[0] else words


ORDER = "done not gone there changes firm goes stays other shut open".split()
FIELD_WORDS = "gone there changes firm goes stays".split()
CLAIMS = {
    "look": FIELD_WORDS,
    "has": ["gone", "there"],
    "get": ["gone", "there"],
    "set": ["done", "not"],
    "define": ["done", "not", *FIELD_WORDS[2:]],
    "take": ["done", "not"],
    "names": ["gone", "there"],
    "shut": ["done", "not"],
    "isshut": ["shut", "open"],
}


def behinds(kind):
    """The words that a check of the kind may have behind ([7])."""
    if kind in ("shut", "isshut"):
        return ["shut", "open"]
    if kind in ("look", "get", "set", "define"):
        return [*FIELD_WORDS, "other", "shut", "open"]
    return [*FIELD_WORDS, "shut", "open"]


def random_check(rng, kinds=tuple(CLAIMS), words=3):
    """A check of one of the kinds with at most so many words on each side."""
    kind = rng.choice(kinds)
    sides = []
    for allowed in (CLAIMS[kind], behinds(kind)):
        chosen = rng.sample(allowed, rng.randint(0, min(words, len(allowed))))
        sides.append(tuple(word for word in ORDER if word in chosen))
    return (kind, *sides)


def random_checks(rng, many, kinds=tuple(CLAIMS), words=3):
    """So many different checks, in a random order."""
    chosen = {}
    while len(chosen) < many:
        chosen[random_check(rng, kinds, words)] = True
    return list(chosen)


def refuses(check, event, shown, name="a"):
    kind, claim, behind = check
    if kind != event[0][0]:
        return False
    return set(claim) <= words_of_event(event, name) and set(behind) <= words_shown(event, shown)


def first_refuser(checks, event, shown, name="a"):
    for check in checks:
        if refuses(check, event, shown, name):
            return check
    return None


def lets(checks, event, shown):
    return first_refuser(checks, event, shown) is None


def let_by(checks):
    """All `(event, standing)` that the checks let by."""
    return {(event, shown) for event in EVENTS for shown in STANDINGS if lets(checks, event, shown)}


def is_fair(checks):
    return all(lets(checks, event, standing) for event, standing in TRUE)


# Promises, about `a` alone ([5]).


def denies(event):
    deed, answer = event
    kind = deed[0]
    return (
        (kind in ("look", "get") and answer is None)
        or (kind == "has" and answer is False)
        or (kind == "take" and answer is True)
        or (kind == "names" and "a" not in answer)
    )


def shows(event):
    deed, answer = event
    kind = deed[0]
    return (
        (kind in ("look", "get") and answer is not None)
        or (kind in ("has", "set", "define") and answer is True)
        or (kind == "names" and "a" in answer)
    )


def told_field(event):
    deed, answer = event
    if deed[0] == "look":
        return answer
    return deed[2:] if deed[0] == "define" and answer is True else None


def told_value(event):
    deed, answer = event
    if told_field(event) is not None:
        return told_field(event)[0]
    if deed[0] == "get":
        return answer
    return deed[2] if deed[0] == "set" and answer is True else None


NOTHING = (False, False, None, False)


@functools.cache
def _hear(told, event):
    shut, stays, fixed, never = told
    field, value = told_field(event), told_value(event)
    broken = []
    if shut and event == (("isshut",), False):
        broken.append("shut")
    if stays and (denies(event) or (field is not None and field[2])):
        broken.append("stays")
    if fixed is not None and ((field is not None and field[1]) or (value is not None and value != fixed)):
        broken.append("fixed")
    if never and shows(event):
        broken.append("never")
    if field is not None and not field[2]:
        stays = True
        if not field[1] and fixed is None:
            fixed = field[0]
    never = never or (shut and denies(event))
    shut = shut or event in ((("shut",), True), (("isshut",), True))
    return broken, (shut, stays, fixed, never)


def hear(told, event, promises=PROMISES):
    """The promises of the list that the event breaks, and what is told after it."""
    broken, after = _hear(told, event)
    return [promise for promise in broken if promise in promises], after


# Tellings ([12], [13]).


def spans(checks, depth):
    """For each event the set of the pairs (first standing, last standing) of its possible tellings."""
    if depth == 1:
        return {event: {(shown, shown) for shown in STANDINGS if lets(checks, event, shown)} for event in EVENTS}
    below = spans(checks, depth - 1)
    after_shut = {
        event: {
            span
            for isshut in ISSHUTS
            if lets(checks, event, (None, isshut[1]))
            for span in below[isshut]
        }
        for event in EVENTS
        if event[0][0] in ("shut", "isshut")
    }
    joined = {}
    for look in LOOKS:
        for isshut in ISSHUTS:
            joined[(look[1], isshut[1])] = {
                (first, last)
                for first, middle in below[look]
                for other, last in below[isshut]
                if other in REACHABLE[middle]
            }
    about = {
        event: set().union(*[joined[shown] for shown in STANDINGS if lets(checks, event, shown)])
        for event in EVENTS
        if event not in after_shut
    }
    return {event: (after_shut if event in after_shut else about)[event] for event in EVENTS}


def pairs(checks, depth):
    """For each event the list, in order, of the pairs between which it leads."""
    return _pairs(tuple(checks), depth)


@functools.cache
def _pairs(checks, depth):
    found = spans(checks, depth)
    return {
        event: [
            (before, after)
            for before in STANDINGS
            for after in STANDINGS
            if any((first, after) in found[event] for first in REACHABLE[before])
        ]
        for event in EVENTS
    }


def standings_of(telling, depth):
    """The standings in the telling, read from left to right."""
    if depth == 1:
        return [telling[1]]
    return [standing for part in telling[1] for standing in standings_of(part, depth - 1)]


def is_telling(checks, telling, depth):
    """True if this is a telling of this depth, by the words of [12]."""
    if type(telling) is not tuple or len(telling) != 2 or telling[0] not in EVENTS:
        return False
    event, told_over = telling
    if depth == 1:
        return told_over in STANDINGS and lets(checks, event, told_over)
    kinds = [("isshut",)] if event[0][0] in ("shut", "isshut") else [("look", "a"), ("isshut",)]
    if type(told_over) is not tuple or not all(is_telling(checks, part, depth - 1) for part in told_over):
        return False
    if [part[0][0] for part in told_over] != kinds:
        return False
    answers = [part[0][1] for part in told_over]
    return lets(checks, event, tuple(answers) if len(answers) == 2 else (None, answers[0]))


def is_possible(row, depth):
    """True if each standing in the row of tellings can pass into the next one."""
    path = [standing for telling in row for standing in standings_of(telling, depth)]
    return all(after in REACHABLE[before] for before, after in zip(path, path[1:]))


def is_lie(checks, row, promises, depth):
    """True if the row is a lie about the promises, by the words of [13]."""
    if type(row) is not list or not row:
        return False
    if not all(is_telling(checks, telling, depth) for telling in row) or not is_possible(row, depth):
        return False
    told = NOTHING
    for event, _ in row[:-1]:
        told = hear(told, event)[1]
    return bool(hear(told, row[-1][0], promises)[0])


def has_lie_letting(let, promises):
    """True if there is a lie of depth 1 where exactly these `(event, standing)` are let by."""
    let_at = {standing: [event for event in EVENTS if (event, standing) in let] for standing in STANDINGS}
    queue = [(standing, NOTHING) for standing in STANDINGS]
    seen = set(queue)
    for before, told in queue:
        for standing in REACHABLE[before]:
            for event in let_at[standing]:
                broken, after = hear(told, event, promises)
                if broken:
                    return True
                if (standing, after) not in seen:
                    seen.add((standing, after))
                    queue.append((standing, after))
    return False


def has_lie(checks, promises):
    """True if the checks let a lie of depth 1 about the promises by."""
    return has_lie_letting(let_by(checks), promises)


def ends(checks, depth, promises):
    """What rows of tellings of this depth reach, by their length, until nothing new comes.

    Level k has each `(standing, told)` in which rows of k tellings end that break none of the
    promises, if no shorter row ends so.
    """
    afters = _afters(tuple(checks), depth)
    levels = [{(standing, NOTHING) for standing in STANDINGS}]
    reached = set(levels[0])
    while levels[-1]:
        following = set()
        for standing, told in levels[-1]:
            for event, places in afters[standing].items():
                broken, after = hear(told, event, promises)
                if not broken:
                    following.update((place, after) for place in places)
        levels.append(following - reached)
        reached |= following
    return levels


def least_break(checks, depth, promises):
    """The length of a shortest row of tellings of this depth that is a lie, or None."""
    return _least_break(tuple(checks), depth, tuple(promises))


@functools.cache
def _least_break(checks, depth, promises):
    afters = _afters(checks, depth)
    level, reached, length = {(standing, NOTHING) for standing in STANDINGS}, set(), 0
    while level:
        length += 1
        reached |= level
        following = set()
        for standing, told in level:
            for event, places in afters[standing].items():
                broken, after = hear(told, event, promises)
                if broken:
                    return length
                following.update((place, after) for place in places)
        level = following - reached
    return None


@functools.cache
def _afters(checks, depth):
    """For each standing a dict from the events to the standings to which they lead from it."""
    afters = {standing: {} for standing in STANDINGS}
    for event, found in pairs(checks, depth).items():
        for before, after in found:
            afters[before].setdefault(event, []).append(after)
    return afters



def random_field(rng, values=range(10)):
    return (rng.choice(values), *rng.choice(FLAGS))


def random_deed(rng, names=NAMES, values=range(10)):
    kind = rng.choice(list(CLAIMS))
    if kind in ("names", "shut", "isshut"):
        return (kind,)
    if kind == "set":
        return (kind, rng.choice(names), rng.choice(values))
    if kind == "define":
        return (kind, rng.choice(names), *random_field(rng, values))
    return (kind, rng.choice(names))


def random_answer(rng, deed, names=NAMES, values=range(10)):
    """An answer of the form that [3] gives for the deed."""
    if deed[0] == "look":
        return rng.choice([None, random_field(rng, values)])
    if deed[0] == "get":
        return rng.choice([None, rng.choice(values)])
    if deed[0] == "names":
        return tuple(rng.sample(names, rng.randint(0, len(names))))
    return rng.choice([False, True])


class PlainStandIn:
    """A stand-in by the words of [9] and [10], over a thing or stand-in of this module.

    `rows` are the rows of its script, `checks` a list. What would raise gives the tuple
    `("lie", deed, answer, check)` as an error.
    """

    class Raised(Exception):
        pass

    def __init__(self, behind, rows, checks):
        self.behind, self.rows, self.checks, self.history = behind, list(rows), checks, []

    def scripted(self, deed):
        for at in range(len(self.rows)):
            if self.rows[at][0] == deed:
                _, first, answer = self.rows.pop(at)
                for earlier in first:
                    self.behind.ask(earlier)
                return self.behind.ask(deed) if answer == "true" else answer
        return self.behind.ask(deed)

    def ask(self, deed):
        answer = self.scripted(deed)
        shown = []
        if deed[0] in ("shut", "isshut"):
            shown = [("a", None)]
        for name in NAMES if deed[0] == "names" else deed[1:2]:
            shown.append((name, self.behind.ask(("look", name))))
        shut = self.behind.ask(("isshut",))
        for name, field in shown:
            for check in self.checks:
                if refuses(check, (deed, answer), (field, shut), name):
                    raise self.Raised("lie", deed, answer, check)
        self.history.append((deed, answer))
        return answer


# Books for the tests of the judge.


def near(promises, rng, gone, added, freest):
    """The checks of a book that has no lie at depth 1, with some left out and some added."""
    checks = list(freest)
    rng.shuffle(checks)
    checks = checks[min(gone, len(checks)):]
    return list(dict.fromkeys(checks + random_checks(rng, added)))


# Fair checks under which the first lie about `fixed` has the depth 3: over a fixed field it
# is told at depth 1 that the field goes, at depth 2 that it is gone, and at depth 3 another one.
FIRST_LIE_AT_3 = [
    ("look", ("gone",), ("firm", "stays")),
    ("look", ("changes",), ("firm", "goes")),
    ("look", ("there",), ("firm", "goes", "other")),
    ("get", ("there",), ("firm", "goes", "other")),
    ("set", ("done",), ("firm", "goes", "other")),
    ("define", ("done", "changes"), ("firm", "goes")),
    ("define", ("done",), ("firm", "goes", "other")),
]
