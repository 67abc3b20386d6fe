import inspect
import random
import unittest

import oracle
from lyingstandins.books import Book
from lyingstandins.errors import StandInError, Unfair
from lyingstandins.judging import Judge, first_lie

ALL = list(oracle.PROMISES)


def some_books():
    """The checks of books of many kinds: with lies and without, fair and unfair."""
    rng = random.Random(10)
    books = [[], [("look", (), ())], [("isshut", (), ())], [(kind, (), ()) for kind in oracle.CLAIMS]]
    for promises in ([], ["shut"], ["fixed"], ["never"], ["shut", "never"], ALL):
        freest = list(Book.freest(promises))
        books.append(freest)
        for gone, added in ((1, 0), (2, 3), (0, 6)):
            books.append(oracle.near(promises, rng, gone, added, freest))
    for many in (1, 3, 8, 20, 80):
        books += [oracle.random_checks(rng, many) for _ in range(2)]
    books.append(list(Book.freest(["fixed"])) + oracle.FIRST_LIE_AT_3)
    return books


BOOKS = some_books()


class PairsTest(unittest.TestCase):
    def test_all_events_against_the_words_of_the_document(self):
        for checks in BOOKS:
            for depth in (1, 2, 3, 4):
                judge, expected = Judge(Book(checks), depth=depth), oracle.pairs(checks, depth)
                for event in oracle.EVENTS:
                    found = list(judge.pairs(event))
                    self.assertEqual(repr(found), repr(expected[event]), (checks, depth, event))

    def test_the_depth_is_1_where_none_is_passed(self):
        for checks in BOOKS:
            judge, one = Judge(Book(checks)), Judge(Book(checks), depth=1)
            for event in oracle.EVENTS:
                self.assertEqual(list(judge.pairs(event)), list(one.pairs(event)))

    def test_some_pairs_in_full(self):
        book = Book.parsed(["look gone if there", "look there if gone", "look if there other", "take not if"])
        fixed, shut_fixed = ((1, False, False), False), ((1, False, False), True)
        judge = Judge(book)
        found = [pair for pair in judge.pairs((("look", "a"), (1, False, True))) if pair[0] in (fixed, shut_fixed)]
        self.assertEqual(found, [(fixed, fixed), (fixed, shut_fixed), (shut_fixed, shut_fixed)])
        self.assertEqual(list(judge.pairs((("take", "a"), False))), [])
        nothing = [(before, (None, shut)) for before in oracle.STANDINGS for shut in (False, True)]
        nothing = [(before, after) for before, after in nothing if after in oracle.REACHABLE[before]]
        self.assertEqual(list(judge.pairs((("look", "a"), None))), nothing)

    def test_a_generator_that_is_the_same_when_it_is_called_again(self):
        self.assertTrue(inspect.isgeneratorfunction(Judge.pairs))
        judge = Judge(Book.freest(ALL), depth=2)
        for event in oracle.EVENTS:
            first, second = judge.pairs(event), judge.pairs(event)
            begun = next(first, None)
            rest = list(first)
            self.assertEqual(list(second), [begun, *rest] if begun else [])
            self.assertEqual(list(judge.pairs(event)), [begun, *rest] if begun else [])

    def test_the_checks_that_the_book_has_when_the_judge_is_made(self):
        book = Book([])
        judge = Judge(book, depth=2)
        book |= Book([(kind, (), ()) for kind in oracle.CLAIMS])
        expected = oracle.pairs([], 2)
        for event in oracle.EVENTS:
            self.assertEqual(list(judge.pairs(event)), expected[event])
            self.assertEqual(list(Judge(book, depth=2).pairs(event)), [])
        self.assertEqual(len(judge.lie(["shut"])), 2)
        self.assertEqual(len(judge.table([])), len(Judge(Book([]), depth=2).table([])))
        self.assertEqual(judge.answers([], ("shut",)), [False, True])
        self.assertEqual(len(book), 9)


class LieTest(unittest.TestCase):
    def test_a_search_of_all_rows_of_two_and_three_tellings_at_depth_1(self):
        lengths = []
        for checks in BOOKS[::2]:
            tellings = [(event, at) for event in oracle.EVENTS for at in oracle.STANDINGS if oracle.lets(checks, event, at)]
            for promises in ([], ["shut"], ["stays"], ["fixed"], ["never"], ["never", "shut"], ALL):
                least = self.least_row(tellings, promises)
                lie = Judge(Book(checks)).lie(promises)
                lengths.append(least)
                if least is None:
                    self.assertTrue(lie is None or len(lie) > 3, (checks, promises, lie))
                else:
                    self.assertEqual(len(lie), least, (checks, promises, lie))
                    self.assertTrue(oracle.is_lie(checks, lie, promises, 1), (checks, promises, lie))
        self.assertEqual(set(lengths), {None, 2, 3})

    def least_row(self, tellings, promises):
        """The length of a shortest row of two or three tellings that is a lie, or None."""
        # What one telling leaves is all that matters of it for the next one.
        left = {(at, oracle.hear(oracle.NOTHING, event)[1]) for event, at in tellings}
        for length in (2, 3):
            following = set()
            for before, told in left:
                for event, at in tellings:
                    if at in oracle.REACHABLE[before]:
                        broken, after = oracle.hear(told, event, promises)
                        if broken:
                            return length
                        following.add((at, after))
            left = following
        return None

    def test_each_lie_telling_by_telling_and_none_shorter(self):
        found = set()
        for checks in BOOKS[1::2]:
            for depth in (1, 2, 3, 4):
                judge = Judge(Book(checks), depth=depth)
                for promises in (["shut"], ["stays"], ["fixed"], ["never"], ALL):
                    lie = judge.lie(promises)
                    least = oracle.least_break(checks, depth, promises)
                    self.assertEqual(lie and len(lie), least, (checks, depth, promises, lie))
                    if lie is not None:
                        self.assertTrue(oracle.is_lie(checks, lie, promises, depth), (checks, depth, promises, lie))
                    found.add((depth, lie and len(lie)))
        self.assertEqual(found, {(depth, length) for depth in (1, 2, 3, 4) for length in (None, 2, 3)})

    def test_the_kinds_of_values(self):
        lie = Judge(Book.parsed(["shut if"]), depth=3).lie(["shut"])
        self.assertIs(type(lie), list)
        self.assertEqual(len(lie), 2)
        event, parts = lie[1]
        self.assertEqual(event, (("isshut",), False))
        self.assertIs(type(parts), tuple)
        self.assertEqual(len(parts), 1)
        (below, lowest), = parts
        self.assertEqual(below[0], ("isshut",))
        self.assertEqual([len(lowest), lowest[0][0][0]], [1, ("isshut",)])
        self.assertIn(lowest[0][1], oracle.STANDINGS)
        lie = Judge(Book([]), depth=2).lie(["stays"])
        for event, parts in lie:
            self.assertEqual([part[0][0] for part in parts], [("look", "a"), ("isshut",)])

    def test_no_promises_no_lie(self):
        for depth in (1, 2, 8):
            self.assertIsNone(Judge(Book([]), depth=depth).lie([]))

    def test_an_item_twice_and_another_order(self):
        for checks in BOOKS:
            judge = Judge(Book(checks), depth=2)
            for promises in (["never", "fixed"], ["stays", "shut", "never"]):
                lie = judge.lie(promises)
                for other in (promises[::-1], promises * 2):
                    again = judge.lie(other)
                    self.assertEqual(again and len(again), lie and len(lie))

    def test_the_lists_belong_to_the_caller(self):
        judge, promises = Judge(Book([]), depth=2), ["never"]
        lie = judge.lie(promises)
        length = len(lie)
        self.assertEqual(promises, ["never"])
        lie.clear()
        self.assertEqual(len(judge.lie(promises)), length)
        self.assertTrue(oracle.is_lie([], judge.lie(promises), promises, 2))


class TableTest(unittest.TestCase):
    def test_closed_and_reached(self):
        for checks in BOOKS[::3]:
            for depth in (1, 2, 3):
                judge = Judge(Book(checks), depth=depth)
                for promises in ([], ["shut"], ["fixed"], ["stays", "never"], ALL):
                    table = judge.table(promises)
                    self.assertEqual(len(set(map(repr, table))), len(table))
                    levels = oracle.ends(checks, depth, promises)
                    reached = set().union(*levels)
                    self.assertEqual(set(map(repr, table)), set(map(repr, reached)), (checks, depth, promises))

    def test_no_tellings(self):
        checks = [(kind, (), ()) for kind in oracle.CLAIMS]
        table = Judge(Book(checks)).table(ALL)
        self.assertEqual(sorted(map(repr, table)), sorted(repr((at, oracle.NOTHING)) for at in oracle.STANDINGS))

    def test_the_kinds_of_values(self):
        table = Judge(Book([])).table(["never"])
        self.assertIs(type(table), list)
        for standing, told in table:
            self.assertIn(standing, oracle.STANDINGS)
            self.assertEqual([type(told[at]) for at in (0, 1, 3)], [bool] * 3)
            self.assertIn(repr(told[2]), ("None", "0", "1"))

    def test_it_belongs_to_the_caller(self):
        judge = Judge(Book.freest(ALL))
        table = judge.table(ALL)
        many = len(table)
        table.clear()
        self.assertEqual(len(judge.table(ALL)), many)


class AnswersTest(unittest.TestCase):
    def expected(self, leads, row, deed):
        places = oracle.STANDINGS
        for event in row:
            places = {after for before, after in leads[event] if before in places}
        answers = [answer for other, answer in oracle.EVENTS if other == deed]
        return [answer for answer in answers if any(before in places for before, _ in leads[(deed, answer)])]

    def test_after_rows_of_no_one_and_many_events(self):
        rng = random.Random(11)
        empty = 0
        for checks in BOOKS[::2]:
            for depth in (1, 2, 4):
                judge, leads = Judge(Book(checks), depth=depth), oracle.pairs(checks, depth)
                for many in (0, 1, 1, 2, 4, 10):
                    row = rng.choices(oracle.EVENTS, k=many)
                    for deed in rng.sample(oracle.DEEDS, 5):
                        answers = judge.answers(row, deed)
                        self.assertEqual(repr(answers), repr(self.expected(leads, row, deed)), (checks, row, deed))
                        empty += not answers
        self.assertGreater(empty, 100)

    def test_rows_that_can_be_told(self):
        rng = random.Random(12)
        for checks in BOOKS[::3]:
            judge, leads = Judge(Book(checks), depth=2), oracle.pairs(checks, 2)
            row = []
            for _ in range(12):
                deed = rng.choice(oracle.DEEDS)
                answers = judge.answers(row, deed)
                self.assertEqual(repr(answers), repr(self.expected(leads, row, deed)))
                if answers:
                    row.append((deed, rng.choice(answers)))

    def test_a_plain_thing_is_what_a_strict_book_leaves(self):
        judge = Judge(Book.freest(ALL))
        look, fixed = ("look", "a"), (1, False, False)
        self.assertEqual(judge.answers([(look, fixed)], look), [fixed])
        self.assertEqual(judge.answers([(look, fixed)], ("get", "a")), [1])
        self.assertEqual(judge.answers([(look, fixed)], ("names",)), [("a",)])
        self.assertEqual(judge.answers([(("isshut",), True), (look, None)], look), [None])
        self.assertEqual(judge.answers([(("shut",), True)], ("isshut",)), [True])
        self.assertEqual(judge.answers([], look), [None, *oracle.FIELDS])
        self.assertEqual(judge.answers([], ("names",)), [(), ("a",)])

    def test_a_row_that_cannot_be_told(self):
        judge = Judge(Book.parsed(["look gone if there", "look there if gone", "look if there other"]))
        fixed = (("look", "a"), (0, False, False))
        for row in ([(("isshut",), True)] * 3, []):
            self.assertNotEqual(judge.answers([*row, fixed], ("get", "a")), [])
        refused = Judge(Book.parsed(["look if"]))
        for row in ([fixed], [fixed, (("isshut",), True)], [(("isshut",), True), fixed]):
            for deed in oracle.DEEDS:
                self.assertEqual(refused.answers(row, deed), [])

    def test_promises_do_not_matter(self):
        judge = Judge(Book([]))
        row = [(("shut",), True), (("isshut",), False), (("look", "a"), (0, False, False)), (("look", "a"), None)]
        for deed in oracle.DEEDS:
            self.assertEqual(judge.answers(row, deed), [answer for other, answer in oracle.EVENTS if other == deed])

    def test_the_lists_belong_to_the_caller(self):
        judge, row = Judge(Book([])), [(("has", "a"), True)]
        judge.answers(row, ("shut",)).clear()
        self.assertEqual(judge.answers(row, ("shut",)), [False, True])
        self.assertEqual(row, [(("has", "a"), True)])


class FirstLieTest(unittest.TestCase):
    def test_depth_1(self):
        for promises in oracle.PROMISE_LISTS[1:]:
            depth, lie = first_lie(Book([]), promises)
            self.assertEqual(depth, 1)
            self.assertTrue(oracle.is_lie([], lie, promises, 1))

    def test_depth_2(self):
        for promises in (["fixed"], ["never"], ["shut", "fixed"], ["fixed", "stays", "never"]):
            book = Book.freest(promises)
            depth, lie = first_lie(book, promises)
            self.assertEqual(depth, 2)
            self.assertTrue(oracle.is_lie(list(book), lie, promises, 2))
            self.assertEqual(len(lie), len(Judge(book, depth=2).lie(promises)))

    def test_depth_3(self):
        book = Book.freest(["fixed"])
        book |= Book(oracle.FIRST_LIE_AT_3)
        self.assertTrue(oracle.is_fair(list(book)))
        depth, lie = first_lie(book, ["fixed"])
        self.assertEqual(depth, 3)
        self.assertEqual(len(lie), 2)
        self.assertTrue(oracle.is_lie(list(book), lie, ["fixed"], 3))
        for depth in (1, 2):
            self.assertIsNone(Judge(book, depth=depth).lie(["fixed"]))

    def test_nowhere(self):
        for promises in ([], ["shut"], ["stays"], ["shut", "stays"], ["shut", "never"], ["stays", "fixed"], ALL):
            self.assertIsNone(first_lie(Book.freest(promises), promises))

    def test_against_the_judges_of_all_depths(self):
        rng = random.Random(13)
        depths = set()
        for _ in range(40):
            promises = rng.choice(oracle.PROMISE_LISTS[1:])
            freest = list(Book.freest(promises)) + rng.choice([[], oracle.FIRST_LIE_AT_3])
            checks = oracle.near(promises, rng, rng.choice([0, 0, 1]), rng.choice([0, 3, 9]), freest)
            checks = [check for check in checks if oracle.is_fair([check])]
            found = first_lie(Book(checks), promises)
            lies = [Judge(Book(checks), depth=depth).lie(promises) for depth in range(1, 9)]
            with_one = [at for at, lie in enumerate(lies) if lie is not None]
            if with_one:
                self.assertEqual(found[0], with_one[0] + 1)
                self.assertEqual(len(found[1]), len(lies[with_one[0]]))
                self.assertTrue(oracle.is_lie(checks, found[1], promises, found[0]))
                # A lie of one depth can be told at each greater one.
                self.assertEqual(with_one, list(range(with_one[0], 8)))
            else:
                self.assertIsNone(found)
            depths.add(found and found[0])
        self.assertTrue({None, 1, 2} <= depths, depths)

    def test_unfair_by_the_first_event_in_order(self):
        cases = [
            ("look if", (("look", "a"), None)),
            ("look there if", (("look", "a"), (0, False, False))),
            ("look changes if stays shut", (("look", "a"), (0, True, False))),
            ("look firm goes if goes", (("look", "a"), (0, False, True))),
            ("look gone if shut", (("look", "a"), None)),
            ("isshut if", (("isshut",), False)),
            ("isshut shut if", (("isshut",), True)),
            ("isshut if shut", (("isshut",), True)),
            ("isshut open if open", (("isshut",), False)),
        ]
        for line, event in cases:
            for promises in ([], ["shut"], ALL):
                with self.assertRaises(Unfair) as caught:
                    first_lie(Book.parsed(["get if", line, "has if"]), promises)
                self.assertEqual(repr(caught.exception.event), repr(event), line)
                self.assertIsInstance(caught.exception, StandInError)

    def test_unfair_by_several_checks(self):
        for lines, event in [
            (["isshut open if", "isshut shut if"], (("isshut",), False)),
            (["isshut if", "look if changes goes"], (("look", "a"), (0, True, True))),
            (["look stays if changes", "look firm stays if"], (("look", "a"), (0, False, False))),
        ]:
            for order in (lines, lines[::-1]):
                with self.assertRaises(Unfair) as caught:
                    first_lie(Book.parsed(order), ["stays"])
                self.assertEqual(repr(caught.exception.event), repr(event))

    def test_what_is_refused_where_it_is_not_true_is_not_unfair(self):
        lines = ["look gone if there", "look if other", "look there if gone", "isshut open if shut", "isshut shut if open"]
        lines += ["look changes if firm", "look stays if goes", "look gone there if"]
        for line in lines:
            first_lie(Book.parsed([line]), ["shut"])
        self.assertEqual(first_lie(Book.parsed(lines), ["shut"])[0], 1)
        lines.append("shut done if open")
        self.assertIsNone(first_lie(Book.parsed(lines), ["shut"]))

    def test_other_true_events_may_be_refused(self):
        lines = [kind + " if" for kind in oracle.CLAIMS if kind not in ("look", "isshut")]
        self.assertIsNone(first_lie(Book.parsed(lines + ["isshut open if shut", "isshut shut if open"]), ["shut"]))
        self.assertEqual(first_lie(Book.parsed(lines), ["shut"])[0], 1)

    def test_random_unfair_books(self):
        rng = random.Random(14)
        for _ in range(150):
            checks = oracle.random_checks(rng, rng.choice([1, 2, 4]), ["look", "isshut"], 4)
            refused = [
                event
                for event in oracle.LOOKS + oracle.ISSHUTS
                if any((event, at) in oracle.TRUE and not oracle.lets(checks, event, at) for at in oracle.STANDINGS)
            ]
            try:
                first_lie(Book(checks), ["shut"])
                self.assertEqual(refused, [])
            except Unfair as unfair:
                self.assertEqual(repr(unfair.event), repr(refused[0]))

    def test_the_book_and_the_promises_stay_as_they_are(self):
        book, promises = Book.freest(["never"]), ["never", "never"]
        before = list(book)
        first_lie(book, promises)
        self.assertEqual([list(book), promises], [before, ["never", "never"]])


if __name__ == "__main__":
    unittest.main()
