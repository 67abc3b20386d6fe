"""The bounds that the document sets, and a step beyond them: each ends within seconds."""

import random
import time
import unittest

import oracle
from lyingstandins.books import Book
from lyingstandins.judging import Judge, first_lie
from lyingstandins.lists import implied, least_lists, made_up, needed, parting, refused_truths
from lyingstandins.things import Script, StandIn, Thing

ALL = list(oracle.PROMISES)
# A test makes several calls, and each takes a second or two at most; the rest is for a busy machine.
SECONDS = 30


class BoundsTest(unittest.TestCase):
    def setUp(self):
        self.begun = time.monotonic()

    def tearDown(self):
        self.assertLess(time.monotonic() - self.begun, SECONDS)

    def full_book(self, seed):
        """A book of 80 checks, of which 37 leave no lie."""
        checks = list(Book.freest(ALL))
        checks += [check for check in oracle.random_checks(random.Random(seed), 400, words=6) if oracle.is_fair([check])]
        book = Book(checks[:80])
        self.assertEqual(len(book), 80)
        return book

    def test_depth_8_and_somewhat_beyond(self):
        for checks in ([], list(self.full_book(1)), oracle.random_checks(random.Random(2), 80)):
            for depth in (8, 12):
                judge = Judge(Book(checks), depth=depth)
                for promises in oracle.PROMISE_LISTS:
                    judge.lie(promises)
                    judge.table(promises)

    def test_a_lie_of_depth_8(self):
        book = Book.freest(["fixed"])
        book |= Book(oracle.FIRST_LIE_AT_3)
        lie = Judge(book, depth=8).lie(["fixed"])
        self.assertTrue(oracle.is_lie(list(book), lie, ["fixed"], 8))
        self.assertEqual([len(oracle.standings_of(telling, 8)) for telling in lie], [8, 8])
        for promise in (["shut"], ["stays"], ["never"]):
            lie = Judge(Book([]), depth=8).lie(promise)
            self.assertTrue(oracle.is_lie([], lie, promise, 8))

    def test_pairs_at_depth_8(self):
        judge, expected = Judge(self.full_book(3), depth=8), oracle.pairs(list(self.full_book(3)), 8)
        for event in oracle.EVENTS:
            self.assertEqual(list(judge.pairs(event)), expected[event])

    def test_a_row_of_60_events_and_more(self):
        rng = random.Random(4)
        for many in (60, 100):
            judge, row = Judge(self.full_book(5), depth=8), []
            while len(row) < many:
                deed = rng.choice(oracle.DEEDS)
                answers = judge.answers(row[-60:], deed)
                if answers:
                    row.append((deed, rng.choice(answers)))
            self.assertIs(type(judge.answers(row, ("look", "a"))), list)

    def test_a_list_of_6_checks_and_more(self):
        lines = ["look there if gone", "isshut open if shut", "look gone if there", "shut done if open", "isshut shut if open"]
        checks = list(Book.parsed([*lines, "names gone if there", "get there if gone"]))
        for promises in ([], ["shut"], ["never"], ALL):
            found = least_lists(checks[:6], promises, depth=8)
            self.assertEqual(found, least_lists(checks[:6], promises, depth=3))
            least_lists(checks, promises)

    def test_a_book_of_80_checks_at_depth_8(self):
        book = self.full_book(6)
        self.assertTrue(needed(book, ["shut", "stays"], depth=8))

    def test_other_lists_of_a_book_of_80_checks(self):
        book = self.full_book(7)
        implied(book)
        made_up(book, depth=8)
        refused_truths(book, ahead=True, meanwhile=True)
        parting(book, Book.freest(ALL))
        self.assertIsNone(first_lie(book, ALL))

    def test_a_script_of_200_rows_and_more(self):
        for many in (200, 400):
            rows = [(("get", "a"), [("set", "a", at % 10)], at % 10) for at in range(many)]
            script = Script(rows)
            thing = Thing()
            stand_in = StandIn(thing, script, Book.freest(ALL))
            self.assertEqual(script.left, many)
            for at in range(many):
                self.assertEqual(stand_in.ask(("get", "a")), at % 10)
            self.assertEqual(script.left, 0)
            self.assertEqual(len(thing.history), 3 * many)
            self.assertEqual(stand_in.ask(("get", "a")), 9)

    def test_six_stand_ins_and_all_deeds(self):
        front, book = Thing([(name, 1, True, True) for name in oracle.NAMES]), self.full_book(8)
        for _ in range(6):
            front = StandIn(front, Script(), book)
        for deed in oracle.DEEDS:
            front.ask(deed)
        self.assertEqual([deed for deed, _ in front.history], oracle.DEEDS)

    def test_six_stand_ins_with_scripts_of_200_rows(self):
        rng, front = random.Random(9), Thing()
        for _ in range(6):
            deeds = [oracle.random_deed(rng, "ab") for _ in range(200)]
            rows = [(deed, [oracle.random_deed(rng, "ab")], oracle.random_answer(rng, deed)) for deed in deeds]
            front = StandIn(front, Script(rows), Book([]))
        for deed in oracle.DEEDS:
            front.ask(deed)
        self.assertEqual(len(front.history), len(oracle.DEEDS))


if __name__ == "__main__":
    unittest.main()
