import itertools
import unittest

from lyingstandins.fields import events
from lyingstandins.promises import PROMISES, Memory

NAMES = "abcdefgh"
SHUT = (("shut",), True)
IS_SHUT = (("isshut",), True)
IS_OPEN = (("isshut",), False)


def look(field, name="a"):
    return (("look", name), field)


def has(answer, name="a"):
    return (("has", name), answer)


def get(answer, name="a"):
    return (("get", name), answer)


def put(value, answer, name="a"):
    return (("set", name, value), answer)


def define(field, answer, name="a"):
    return (("define", name, *field), answer)


def take(answer, name="a"):
    return (("take", name), answer)


def names(*answer):
    return (("names",), answer)


def heard(*row):
    memory = Memory()
    for event in row:
        memory.hear(event)
    return memory


def broken(*row):
    """What the last event of the row breaks."""
    return heard(*row[:-1]).hear(row[-1])


FIXED = look((3, False, False))
STAYS = look((3, True, False))
GOES = (3, True, True)

DENYING = [look(None), get(None), has(False), take(True), names(), names("b", "h")]
SHOWING = [
    look((0, False, True)),
    get(0),
    has(True),
    put(0, True),
    define((0, False, True), True),
    names("a"),
    names("h", "a", "b"),
]
NEITHER = [
    put(0, False),
    define((0, False, False), False),
    take(False),
    SHUT,
    (("shut",), False),
    IS_SHUT,
    IS_OPEN,
    look(None, "b"),
    look((0, False, False), "b"),
    has(False, "b"),
    has(True, "b"),
    get(None, "b"),
    get(0, "b"),
    put(0, True, "b"),
    define((0, False, False), True, "b"),
    take(True, "b"),
]


class ShutTest(unittest.TestCase):
    def test_told_by_true_to_shut_or_isshut(self):
        for event in (SHUT, IS_SHUT):
            for name in NAMES:
                self.assertEqual(heard(event).told(name), (True, False, None, False))

    def test_told_by_nothing_else(self):
        others = [(("shut",), False), IS_OPEN, *DENYING, *SHOWING]
        for event in others:
            self.assertIs(heard(event).told("a")[0], False, event)

    def test_broken_by_false_to_isshut_after_it_was_told(self):
        for event in (SHUT, IS_SHUT):
            self.assertEqual(broken(event, IS_OPEN), [("shut", "")])

    def test_not_broken_before_it_was_told(self):
        self.assertEqual(broken(IS_OPEN), [])
        self.assertEqual(broken(IS_OPEN, IS_OPEN), [])
        self.assertEqual(broken((("shut",), False), IS_OPEN), [])

    def test_not_broken_by_false_to_shut(self):
        self.assertEqual(broken(SHUT, (("shut",), False)), [])

    def test_stays_told_and_is_broken_again(self):
        row = [SHUT, IS_OPEN]
        self.assertIs(heard(*row).told("a")[0], True)
        self.assertEqual(broken(*row, IS_OPEN), [("shut", "")])

    def test_told_twice_is_broken_once(self):
        self.assertEqual(broken(SHUT, IS_SHUT, IS_OPEN), [("shut", "")])


class StaysTest(unittest.TestCase):
    def test_told_by_a_field_that_does_not_go(self):
        for changes in (False, True):
            field = (3, changes, False)
            for event in (look(field), define(field, True)):
                self.assertIs(heard(event).told("a")[1], True)

    def test_told_by_nothing_else(self):
        others = [look((3, False, True)), define((3, False, True), True), define((3, False, False), False)]
        for event in [*others, *DENYING, *SHOWING, *NEITHER]:
            self.assertIs(heard(event).told("a")[1], False, event)

    def test_broken_by_each_event_that_denies(self):
        for event in DENYING:
            self.assertEqual(broken(STAYS, event), [("stays", "a")], event)

    def test_broken_by_a_field_that_goes(self):
        for changes in (False, True):
            field = (3, changes, True)
            for event in (look(field), define(field, True)):
                self.assertEqual(broken(STAYS, event), [("stays", "a")])

    def test_not_broken_otherwise(self):
        kept = [look((4, False, False)), define((4, True, False), True), define(GOES, False)]
        kept += [get(4), has(True), put(4, True), names("a"), *NEITHER]
        for event in kept:
            self.assertEqual(broken(STAYS, event), [], event)

    def test_not_broken_before_it_was_told(self):
        for event in [*DENYING, look(GOES)]:
            self.assertEqual(broken(event), [], event)
            self.assertEqual(broken(look(GOES), event), [], event)

    def test_stays_told_and_is_broken_again(self):
        memory = heard(STAYS, look(None))
        self.assertIs(memory.told("a")[1], True)
        self.assertEqual(memory.hear(has(False)), [("stays", "a")])
        self.assertEqual(memory.hear(look(GOES)), [("stays", "a")])
        self.assertIs(memory.told("a")[1], True)


class FixedTest(unittest.TestCase):
    def test_told_by_a_field_that_neither_changes_nor_goes(self):
        for value in range(10):
            field = (value, False, False)
            for event in (look(field), define(field, True)):
                self.assertEqual(repr(heard(event).told("a")), repr((False, True, value, False)))

    def test_told_by_nothing_else(self):
        others = [look((3, False, True)), look((3, True, False)), define((3, True, False), True)]
        others += [define((3, False, False), False), get(3), put(3, True)]
        for event in others:
            self.assertIs(heard(event).told("a")[2], None, event)

    def test_broken_by_a_field_that_changes(self):
        for value in (3, 4):
            for event in (look((value, True, False)), define((value, True, False), True)):
                self.assertEqual(broken(FIXED, event), [("fixed", "a")])

    def test_broken_by_another_value(self):
        events_with_another = [
            look((4, False, False)),
            define((4, False, False), True),
            get(4),
            put(4, True),
        ]
        for event in events_with_another:
            self.assertEqual(broken(FIXED, event), [("fixed", "a")], event)

    def test_not_broken_by_the_same_value(self):
        for event in (look((3, False, False)), define((3, False, False), True), get(3), put(3, True)):
            self.assertEqual(broken(FIXED, event), [], event)

    def test_not_broken_by_an_answer_false(self):
        for event in (define((4, True, True), False), put(4, False), take(False)):
            self.assertEqual(broken(FIXED, event), [], event)

    def test_not_broken_by_events_that_tell_nothing_of_the_name(self):
        for event in NEITHER:
            self.assertEqual(broken(FIXED, event), [], event)

    def test_no_value_is_not_another_value(self):
        for event in DENYING:
            self.assertEqual(broken(FIXED, event), [("stays", "a")], event)

    def test_a_field_that_goes_but_does_not_change_breaks_only_stays(self):
        self.assertEqual(broken(FIXED, look((3, False, True))), [("stays", "a")])

    def test_the_value_0_is_a_value(self):
        zero = look((0, False, False))
        self.assertEqual(broken(zero, get(1)), [("fixed", "a")])
        self.assertEqual(broken(zero, get(0)), [])
        self.assertEqual(broken(look((1, False, False)), get(0)), [("fixed", "a")])
        self.assertEqual(broken(zero, look((1, False, False)), get(0)), [])
        self.assertEqual(heard(zero, look((1, False, False))).told("a"), (False, True, 0, False))

    def test_the_first_value_is_kept(self):
        row = [FIXED, look((4, False, False))]
        self.assertEqual(broken(*row), [("fixed", "a")])
        self.assertEqual(heard(*row).told("a"), (False, True, 3, False))
        self.assertEqual(broken(*row, get(4)), [("fixed", "a")])
        self.assertEqual(broken(*row, get(3)), [])
        self.assertEqual(broken(*row, look((4, False, False))), [("fixed", "a")])

    def test_not_broken_before_it_was_told(self):
        for event in (look((4, False, False)), get(4), put(4, True)):
            self.assertEqual(broken(event), [], event)
            self.assertEqual(broken(STAYS, event), [], event)


class NeverTest(unittest.TestCase):
    def test_told_by_each_event_that_denies_after_shut(self):
        for first in (SHUT, IS_SHUT):
            for event in DENYING:
                self.assertEqual(heard(first, event).told("a"), (True, False, None, True), event)

    def test_not_told_without_shut(self):
        for event in DENYING:
            self.assertIs(heard(event).told("a")[3], False, event)
            self.assertIs(heard(IS_OPEN, event).told("a")[3], False, event)
            self.assertIs(heard((("shut",), False), event).told("a")[3], False, event)

    def test_not_told_if_shut_comes_later(self):
        for event in DENYING:
            memory = heard(event, SHUT)
            self.assertEqual(memory.told("a"), (True, False, None, False), event)
            self.assertEqual(memory.hear(has(True)), [])

    def test_not_told_by_events_that_do_not_deny(self):
        for event in [*SHOWING, *NEITHER]:
            self.assertIs(heard(SHUT, event).told("a")[3], False, event)

    def test_told_after_shut_was_broken(self):
        self.assertIs(heard(SHUT, IS_OPEN, look(None)).told("a")[3], True)

    def test_broken_by_each_event_that_shows(self):
        for event in SHOWING:
            self.assertEqual(broken(SHUT, look(None), event), [("never", "a")], event)

    def test_not_broken_otherwise(self):
        for event in [*DENYING, *NEITHER]:
            if event != IS_OPEN:
                self.assertEqual(broken(SHUT, look(None), event), [], event)

    def test_not_broken_before_it_was_told(self):
        for event in SHOWING:
            self.assertEqual(broken(SHUT, event), [], event)
            self.assertEqual(broken(look(None), event), [], event)

    def test_stays_told_and_is_broken_again(self):
        memory = heard(SHUT, look(None), has(True))
        self.assertIs(memory.told("a")[3], True)
        self.assertEqual(memory.hear(get(0)), [("never", "a")])

    def test_an_event_can_tell_stays_and_break_never(self):
        memory = heard(SHUT, look(None))
        self.assertEqual(memory.hear(FIXED), [("never", "a")])
        self.assertEqual(memory.told("a"), (True, True, 3, True))


class NamesTest(unittest.TestCase):
    def test_a_tuple_of_names_denies_each_name_that_it_lacks(self):
        memory = heard(SHUT, names("c", "a"))
        for name in NAMES:
            self.assertEqual(memory.told(name), (True, False, None, name not in "ac"))

    def test_a_tuple_of_names_shows_each_name_that_it_has(self):
        memory = heard(SHUT, names())
        self.assertEqual(memory.hear(names("h", "c", "a")), [("never", "a"), ("never", "c"), ("never", "h")])

    def test_the_empty_tuple_breaks_what_stays(self):
        row = [look((0, True, False), "h"), look((1, False, False), "b")]
        self.assertEqual(broken(*row, names()), [("stays", "b"), ("stays", "h")])
        self.assertEqual(broken(*row, names("h")), [("stays", "b")])

    def test_each_name_has_its_own_promises(self):
        for name, other in itertools.permutations(NAMES, 2):
            memory = heard(look((3, False, False), name))
            self.assertEqual(memory.told(name), (False, True, 3, False))
            self.assertEqual(memory.told(other), (False, False, None, False))
            self.assertEqual(memory.hear(look((4, True, True), other)), [])
            self.assertEqual(memory.hear(look((4, True, True), name)), [("stays", name), ("fixed", name)])

    def test_shut_lets_never_be_told_of_each_name(self):
        for name in NAMES:
            memory = heard(SHUT, take(True, name))
            for other in NAMES:
                self.assertEqual(memory.told(other), (True, False, None, name == other))


class MemoryTest(unittest.TestCase):
    def test_the_promises(self):
        self.assertEqual(PROMISES, ("shut", "stays", "fixed", "never"))

    def test_at_first_nothing_is_told(self):
        for name in NAMES:
            self.assertEqual(repr(Memory().told(name)), repr((False, False, None, False)))

    def test_kinds_of_what_is_told(self):
        told = heard(SHUT, look(None), FIXED).told("a")
        self.assertEqual(repr(told), repr((True, True, 3, True)))

    def test_an_event_never_breaks_what_it_tells_itself(self):
        for event in events():
            self.assertEqual(Memory().hear(event), [], event)

    def test_all_promises_of_a_name_are_broken_in_order(self):
        row = [SHUT, FIXED, look(None), look((4, True, True))]
        self.assertEqual(broken(*row), [("stays", "a"), ("fixed", "a"), ("never", "a")])

    def test_pairs_come_by_name_and_then_as_in_promises(self):
        row = [SHUT]
        for name in "gbd":
            row.append(look((1, False, False), name))
        row.append(take(True, "d"))
        self.assertEqual(broken(*row, names("d")), [("stays", "b"), ("never", "d"), ("stays", "g")])

    def test_an_answer_to_isshut_breaks_shut_alone(self):
        row = [SHUT, FIXED, look(None), look(None, "b")]
        self.assertEqual(broken(*row, IS_OPEN), [("shut", "")])

    def test_two_memories_do_not_affect_each_other(self):
        first, second = heard(SHUT), Memory()
        second.hear(FIXED)
        self.assertEqual(first.told("a"), (True, False, None, False))
        self.assertEqual(second.told("a"), (False, True, 3, False))
        self.assertEqual(second.hear(IS_OPEN), [])
        self.assertEqual(first.hear(look(None)), [])
        self.assertEqual(Memory().told("a"), (False, False, None, False))

    def test_asking_changes_nothing(self):
        row = [SHUT, FIXED, look(None), IS_OPEN, look((4, True, True)), names("b"), has(True)]
        quiet, asked = Memory(), Memory()
        for event in row:
            for name in NAMES:
                self.assertEqual(asked.told(name), asked.told(name))
            self.assertEqual(asked.hear(event), quiet.hear(event))
            self.assertEqual(asked.told("a"), quiet.told("a"))

    def test_a_change_of_the_returned_list_has_no_effect(self):
        memory = heard(FIXED)
        memory.hear(get(4)).clear()
        pairs = memory.hear(get(4))
        pairs.append(("shut", ""))
        self.assertEqual(memory.hear(get(4)), [("fixed", "a")])

    def test_hear_returns_a_list_of_tuples(self):
        pairs = broken(FIXED, look((4, True, True)))
        self.assertIs(type(pairs), list)
        self.assertEqual([type(pair) for pair in pairs], [tuple, tuple])
        self.assertIs(type(heard(FIXED).told("a")), tuple)


if __name__ == "__main__":
    unittest.main()
