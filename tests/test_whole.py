"""What holds over the whole program: the judge, the stand-ins, and the words of the document."""

import random
import unittest

import oracle
from lyingstandins.books import Book
from lyingstandins.errors import BadAnswer, Lie
from lyingstandins.fields import way
from lyingstandins.judging import Judge, first_lie
from lyingstandins.promises import Memory
from lyingstandins.things import Script, StandIn, Thing

ALL = list(oracle.PROMISES)
OTHERS = "bcdefgh"


def broken_by(history):
    """All that the events break, in order."""
    memory, broken = Memory(), []
    for event in history:
        broken += memory.hear(event)
    return broken


class PlainThingTest(unittest.TestCase):
    def test_a_history_of_a_plain_thing_breaks_no_promise(self):
        rng = random.Random(21)
        told = set()
        for _ in range(150):
            rows = [(name, *oracle.random_field(rng, (0, 1, 9))) for name in rng.sample(oracle.NAMES, rng.randint(0, 8))]
            thing, few = Thing(rows), rng.sample(oracle.NAMES, rng.choice([1, 2, 8]))
            for _ in range(rng.choice([5, 80])):
                thing.ask(oracle.random_deed(rng, few, (0, 1, 9)))
            self.assertEqual(broken_by(thing.history), [])
            memory = Memory()
            for event in thing.history:
                memory.hear(event)
            told.update((at, worth not in (None, False)) for name in few for at, worth in enumerate(memory.told(name)))
        self.assertEqual(len(told), 8)

    def test_a_plain_thing_is_a_row_that_can_be_told_under_a_fair_book(self):
        rng = random.Random(22)
        judges = [Judge(Book.freest(ALL), depth=depth) for depth in (1, 2, 3)]
        for _ in range(40):
            field = rng.choice([None, *oracle.FIELDS])
            thing = Thing([] if field is None else [("a", *field)])
            for _ in range(15):
                row = thing.history
                deed = rng.choice(oracle.DEEDS)
                answer = thing.ask(deed)
                for judge in judges:
                    self.assertIn(answer, judge.answers(row, deed))


class Row:
    """Stand-ins in a row that tell the tellings of one depth, made out of scripts."""

    def __init__(self, tellings, depth, book):
        first = self.first_of(tellings[0], depth)
        self.standing = first
        self.rows = [[] for _ in range(depth)]
        for telling in tellings:
            self.tell(telling, depth)
        self.thing = Thing([] if first[0] is None else [("a", *first[0])])
        if first[1]:
            self.thing.is_shut = True
        front = self.thing
        self.scripts = [Script(rows) for rows in self.rows]
        for script in self.scripts:
            front = StandIn(front, script, book)
        self.front = front

    def first_of(self, telling, depth):
        return telling[1] if depth == 1 else self.first_of(telling[1][0], depth - 1)

    def tell(self, telling, depth):
        (deed, answer), told_over = telling
        if depth == 1:
            self.rows[0].append((deed, list(way(self.standing, told_over)), answer))
            self.standing = told_over
            return
        self.rows[depth - 1].append((deed, [], answer))
        for part in told_over:
            self.tell(part, depth - 1)
            if deed == ("names",) and part[0][0] == ("look", "a"):
                for name in OTHERS:
                    self.tell_truly(("look", name), depth - 1)

    def tell_truly(self, deed, depth):
        """Rows for a deed that is answered truly, so that it uses up none of the others."""
        self.rows[depth - 1].append((deed, [], "true"))
        if depth > 1:
            shown = [("isshut",)] if deed == ("isshut",) else [deed, ("isshut",)]
            for asked in [deed, *shown]:
                self.tell_truly(asked, depth - 1)


class ToldByStandInsTest(unittest.TestCase):
    def books(self, rng):
        yield []
        yield list(Book.freest(["fixed"])) + oracle.FIRST_LIE_AT_3
        for promises in oracle.PROMISE_LISTS[1:]:
            freest = list(Book.freest(promises))
            for gone, added in ((0, 0), (1, 0), (2, 5)):
                yield [check for check in oracle.near(promises, rng, gone, added, freest) if oracle.is_fair([check])]

    def test_a_lie_is_told_by_stand_ins_that_are_made_of_it(self):
        rng = random.Random(23)
        told = set()
        for checks in self.books(rng):
            for depth in (1, 2, 3, 4):
                for promises in (["shut"], ["stays"], ["fixed"], ["never"]):
                    lie = Judge(Book(checks), depth=depth).lie(promises)
                    if lie is not None:
                        self.check(lie, depth, checks, promises)
                        told.add((depth, promises[0]))
        self.assertEqual(len(told), 16)

    def check(self, lie, depth, checks, promises):
        row = Row(lie, depth, Book(checks))
        for event, _ in lie:
            self.assertEqual(repr(row.front.ask(event[0])), repr(event[1]), (checks, lie))
        self.assertEqual(row.front.history, [event for event, _ in lie])
        self.assertEqual([script.left for script in row.scripts], [0] * depth)
        self.assertEqual(broken_by(row.front.history[:-1]).count((promises[0], "a")), 0)
        memory = Memory()
        for event, _ in lie[:-1]:
            memory.hear(event)
        self.assertIn(promises[0], [promise for promise, _ in memory.hear(lie[-1][0])])

    def test_the_lies_of_first_lie_are_told_too(self):
        book = Book.freest(["fixed"])
        book |= Book(oracle.FIRST_LIE_AT_3)
        for promises in (["fixed"], ["never"], ALL):
            depth, lie = first_lie(book, promises)
            row = Row(lie, depth, book)
            for event, _ in lie:
                self.assertEqual(repr(row.front.ask(event[0])), repr(event[1]))


class NoStandInLiesTest(unittest.TestCase):
    """Where the judge finds no lie, random stand-ins break no promise; else some do."""

    NAMES = "ab"
    VALUES = (0, 1, 7)

    def script_row(self, rng):
        deed = oracle.random_deed(rng, self.NAMES, self.VALUES)
        first = [oracle.random_deed(rng, self.NAMES, self.VALUES) for _ in range(rng.choice([0, 0, 0, 1, 2]))]
        # To shut everything at once leaves little to tell.
        first = [other for other in first if other != ("shut",) or rng.random() < 0.3]
        return (deed, first, rng.choice(["true", oracle.random_answer(rng, deed, self.NAMES, self.VALUES)]))

    def run_one(self, rng, book, depth):
        rows = [(name, *oracle.random_field(rng, self.VALUES)) for name in self.NAMES if rng.random() < 0.6]
        thing = Thing(rows)
        front = thing
        for _ in range(depth):
            front = StandIn(front, Script([self.script_row(rng) for _ in range(60)]), book)
        for _ in range(25):
            # Other hands change the thing, too.
            if rng.random() < 0.1:
                thing.ask(oracle.random_deed(rng, self.NAMES, self.VALUES))
            try:
                front.ask(oracle.random_deed(rng, self.NAMES, self.VALUES))
            except Lie:
                pass
            except BadAnswer as bad:
                self.fail(bad)
        return {promise for promise, _ in broken_by(front.history)}

    def test_random_stand_ins(self):
        rng = random.Random(24)
        kept, broken = 0, 0
        books = []
        for promises in oracle.PROMISE_LISTS[1:]:
            freest = list(Book.freest(promises))
            books += [(promises, oracle.near(promises, rng, gone, added, freest)) for gone, added in ((0, 0), (0, 4), (3, 0))]
        for promises, checks in books:
            for depth in (1, 2, 3):
                book = Book(checks)
                judge = Judge(book, depth=depth)
                safe = [promise for promise in ALL if judge.lie([promise]) is None]
                for _ in range(12):
                    found = self.run_one(rng, book, depth)
                    self.assertEqual(found & set(safe), set(), (checks, depth))
                    kept += bool(safe)
                    broken += bool(found)
        self.assertGreater(kept, 500)
        self.assertGreater(broken, 100)


class DepthsTest(unittest.TestCase):
    def test_what_can_be_told_at_a_depth_can_be_told_at_the_next_one(self):
        rng = random.Random(25)
        more = 0
        for _ in range(25):
            checks = oracle.random_checks(rng, rng.choice([2, 6, 30, 60]))
            # Only the true answers to look and isshut have to be let by.
            checks = [check for check in checks if check[0] not in ("look", "isshut") or oracle.is_fair([check])]
            judges = [Judge(Book(checks), depth=depth) for depth in range(1, 6)]
            for event in oracle.EVENTS:
                leads = [set(judge.pairs(event)) for judge in judges]
                for lower, upper in zip(leads, leads[1:]):
                    self.assertTrue(lower <= upper, (checks, event))
                    more += lower != upper
        self.assertGreater(more, 20)

    def test_more_checks_let_no_more_by(self):
        rng = random.Random(26)
        for _ in range(25):
            checks = oracle.random_checks(rng, rng.choice([2, 6, 20]))
            fewer = rng.sample(checks, rng.randint(0, len(checks)))
            for depth in (1, 2, 3):
                whole, part = Judge(Book(checks), depth=depth), Judge(Book(fewer), depth=depth)
                for event in oracle.EVENTS:
                    self.assertTrue(set(whole.pairs(event)) <= set(part.pairs(event)))
                for promises in (["shut"], ["fixed"], ALL):
                    if part.lie(promises) is None:
                        self.assertIsNone(whole.lie(promises))
                    self.assertTrue(part.lie(promises) is not None or set(whole.table(promises)) <= set(part.table(promises)))

    def test_a_table_without_breaks_is_all_that_can_be_told(self):
        for promises in oracle.PROMISE_LISTS:
            judge = Judge(Book.freest(promises))
            self.assertEqual(sorted(map(repr, judge.table(promises))), sorted(map(repr, judge.table([]))))


if __name__ == "__main__":
    unittest.main()
