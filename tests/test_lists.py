import itertools
import random
import unittest

import oracle
from lyingstandins.books import Book
from lyingstandins.lists import implied, least_lists, made_up, needed, parting, refused_truths

ALL = list(oracle.PROMISES)


def has_lie(checks, promises, depth):
    return oracle.least_break(checks, depth, promises) is not None


def checks_of(*lines):
    return list(Book.parsed(list(lines)))


class LeastListsTest(unittest.TestCase):
    def search(self, checks, promises, depth):
        """All lists of the checks by the sentence of the interface."""
        lists = []
        for many in range(len(checks) + 1):
            for chosen in itertools.combinations(checks, many):
                without = [[*chosen[:at], *chosen[at + 1:]] for at in range(many)]
                if not has_lie(chosen, promises, depth) and all(has_lie(one, promises, depth) for one in without):
                    lists.append(list(chosen))
        return lists

    def test_against_a_search(self):
        rng = random.Random(15)
        lengths = set()
        for promises in (["shut"], ["never", "shut"], ["shut"], ["never", "shut"], ["stays"], ["fixed"]):
            freest = list(Book.freest(["shut"]))
            checks = freest + [("isshut", (), ()), ("isshut", ("open",), ()), ("shut", (), ("open",)), ("isshut", ("shut",), ())]
            checks += oracle.random_checks(rng, 2, ["shut", "isshut", "look"])
            checks = rng.sample(list(dict.fromkeys(checks)), 5)
            for depth in (1, 2):
                found = least_lists(checks, promises, depth=depth)
                self.assertEqual(found, self.search(checks, promises, depth), (checks, promises, depth))
                lengths.add(tuple(len(one) for one in found))
        self.assertGreater(len(lengths), 3, lengths)

    def test_in_the_given_order_by_length_and_then_by_the_indexes(self):
        lines = ["shut done if open", "isshut shut if open", "isshut open if shut", "isshut open if", "shut if", "isshut if"]
        checks = checks_of(*lines)
        one, two, three, four, five, six = checks
        expected = [
            # Without any isshut only the check of shut can matter, and nothing breaks the promise.
            [four], [six], [one, two, three], [two, three, five],
        ]
        self.assertEqual(least_lists(checks, ["shut"]), expected)
        self.assertEqual(self.search(checks, ["shut"], 1), expected)
        turned = [six, three, five, one, two, four]
        expected = [[six], [four], [three, five, two], [three, one, two]]
        self.assertEqual(least_lists(turned, ["shut"]), expected)

    def test_lists_that_let_the_promise_never_be_told(self):
        checks = checks_of("look stays if", "define done firm if", "look firm if", "define stays if", "has if")
        expected = [[checks[at] for at in pair] for pair in ((0, 1), (0, 3), (1, 2), (2, 3))]
        for depth in (1, 2, 8):
            self.assertEqual(least_lists(checks, ["fixed"], depth=depth), expected)
        self.assertEqual(self.search(checks, ["fixed"], 1), expected)
        self.assertEqual(least_lists(checks, ["fixed", "stays"]), [[checks[0], checks[3]]])

    def test_the_depth(self):
        checks = checks_of("look gone if there shut", "look there if gone shut", "look if gone", "isshut if")
        for promises in (["never"], ["shut"]):
            for depth in (1, 2, 3):
                self.assertEqual(least_lists(checks, promises, depth=depth), self.search(checks, promises, depth))
            self.assertEqual(least_lists(checks, promises), least_lists(checks, promises, depth=1))

    def test_only_the_empty_list_where_nothing_is_to_be_broken(self):
        self.assertEqual(least_lists([], []), [[]])
        self.assertEqual(least_lists(checks_of("look if", "isshut if"), [], depth=3), [[]])

    def test_none_where_all_the_checks_do_not_do(self):
        self.assertEqual(least_lists([], ["shut"]), [])
        self.assertEqual(least_lists(checks_of("look if", "get if"), ["shut"]), [])

    def test_the_passed_lists_stay_and_the_returned_ones_belong_to_the_caller(self):
        checks, promises = checks_of("isshut if", "look if", "shut if"), ["shut", "shut"]
        found = least_lists(checks, promises)
        self.assertEqual(found, [[("isshut", (), ())]])
        self.assertEqual(checks, checks_of("isshut if", "look if", "shut if"))
        self.assertEqual(promises, ["shut", "shut"])
        found[0].append("more")
        self.assertEqual(least_lists(checks, promises), [[("isshut", (), ())]])


class NeededTest(unittest.TestCase):
    def check(self, checks, promises, depth):
        book = Book(checks)
        found = needed(book, promises, depth=depth)
        expected = [check for check in checks if has_lie([other for other in checks if other != check], promises, depth)]
        self.assertEqual([check for check, _ in found], expected, (checks, promises, depth))
        for check, lie in found:
            without = [other for other in checks if other != check]
            self.assertTrue(oracle.is_lie(without, lie, promises, depth))
            self.assertEqual(len(lie), oracle.least_break(without, depth, promises))
        self.assertEqual(list(book), checks)
        return len(found)

    def test_against_a_search(self):
        rng = random.Random(16)
        counts = set()
        for promises in (["shut"], ["never"], ["fixed"], ["shut", "stays"]):
            freest = list(Book.freest(promises))
            for depth in (1, 2):
                checks = oracle.near(promises, rng, 0, 3, freest)
                counts.add(self.check(checks, promises, depth))
        # Here a lie is left in any case, so that each check is listed.
        self.assertEqual(self.check(checks_of("look if", "get if", "isshut open if shut"), ["shut"], 1), 3)
        self.assertGreater(len(counts), 2)

    def test_some_in_full(self):
        book = Book.parsed(["look if gone", "isshut open if", "shut if", "isshut if shut"])
        found = needed(book, ["shut"])
        self.assertEqual([check for check, _ in found], checks_of("isshut open if"))
        self.assertEqual(needed(Book.parsed(["isshut if", "isshut open if"]), ["shut"]), [])
        self.assertEqual(needed(Book([]), ["shut"]), [])
        self.assertEqual(needed(Book.freest(ALL), []), [])

    def test_the_depth(self):
        book = Book.freest(["fixed"])
        self.assertEqual(len(needed(book, ["fixed"])), len(book))
        self.assertEqual(needed(book, ["fixed"]), needed(book, ["fixed"], depth=1))
        found = needed(book, ["fixed"], depth=2)
        self.assertEqual([check for check, _ in found], list(book))
        for check, lie in found:
            without = [other for other in book if other != check]
            self.assertTrue(oracle.is_lie(without, lie, ["fixed"], 2))


class ImpliedTest(unittest.TestCase):
    def search(self, checks):
        found = []
        for check in checks:
            others = [other for other in checks if other != check]
            if oracle.let_by(others) == oracle.let_by(checks):
                found.append(check)
        return found

    def test_against_a_search(self):
        rng = random.Random(17)
        results = set()
        for many in (0, 1, 2, 4, 8, 20, 40):
            for _ in range(3):
                checks = oracle.random_checks(rng, many)
                book = Book(checks)
                expected = self.search(checks)
                self.assertEqual(implied(book), expected)
                self.assertEqual(list(book), checks)
                results.add(len(expected))
        self.assertGreater(len(results), 3)

    def test_some_in_full(self):
        cases = [
            ([], []),
            (["look if"], []),
            (["look gone if", "look if"], ["look gone if"]),
            (["get if open", "get if shut", "get if"], ["get if open", "get if shut", "get if"]),
            (["get if open", "get if shut", "get if there"], ["get if there"]),
            (["has gone there if", "take if shut open"], ["has gone there if", "take if shut open"]),
            (["set if other", "set if there other"], ["set if other", "set if there other"]),
            (["look gone if other"], ["look gone if other"]),
            (["look there if other", "look if there"], ["look there if other"]),
            (["isshut if shut", "isshut open if shut", "shut if"], ["isshut open if shut"]),
        ]
        for lines, expected in cases:
            self.assertEqual(implied(Book.parsed(lines)), checks_of(*expected), lines)


class PartingTest(unittest.TestCase):
    def search(self, first, second):
        for event in oracle.EVENTS:
            for standing in oracle.STANDINGS:
                if oracle.lets(first, event, standing) and not oracle.lets(second, event, standing):
                    return (event, standing)
        return None

    def test_against_a_search(self):
        rng = random.Random(18)
        found = set()
        for _ in range(60):
            first = oracle.random_checks(rng, rng.choice([0, 1, 3, 20]), words=2)
            second = first + oracle.random_checks(rng, rng.choice([0, 1, 3]), words=4)
            rng.shuffle(second)
            for one, two in ((first, second), (second, first)):
                expected = self.search(one, two)
                self.assertEqual(repr(parting(Book(one), Book(two))), repr(expected))
                self.assertIs(Book(one) <= Book(two), expected is None)
                found.add(expected is None or expected[0][0][0])
        self.assertGreater(len(found), 5)

    def test_some_in_full(self):
        nothing, field = (None, False), ((0, False, False), True)
        cases = [
            ([], [], None),
            ([], ["look if"], ((("look", "a"), None), nothing)),
            (["look if"], [], None),
            ([], ["isshut shut if shut", "look firm if there shut"], ((("look", "a"), (0, False, False)), field)),
            (["look gone if"], ["look if gone"], ((("look", "a"), (0, False, False)), nothing)),
            ([], ["isshut shut if open"], ((("isshut",), True), nothing)),
            ([], ["get there if other"], ((("get", "a"), 0), ((1, False, False), False))),
        ]
        for first, second, expected in cases:
            one, two = Book.parsed(first), Book.parsed(second)
            self.assertEqual(repr(parting(one, two)), repr(expected))
            self.assertEqual([list(one), list(two)], [checks_of(*first), checks_of(*second)])


class MadeUpTest(unittest.TestCase):
    def search(self, checks, depth):
        found = oracle.pairs(checks, depth)
        return [
            (event, standing)
            for event in oracle.EVENTS
            for standing in oracle.STANDINGS
            if (standing, standing) in found[event] and (event, standing) not in oracle.TRUE
        ]

    def test_against_a_search(self):
        rng = random.Random(19)
        books = [[], list(Book.freest(ALL)), list(Book.freest(["fixed"])) + oracle.FIRST_LIE_AT_3]
        books += [oracle.random_checks(rng, many) for many in (1, 5, 20, 60)]
        for checks in books:
            book = Book(checks)
            for depth in (1, 2, 3):
                self.assertEqual(repr(made_up(book, depth=depth)), repr(self.search(checks, depth)))
            self.assertEqual(made_up(book), made_up(book, depth=1))
            self.assertEqual(list(book), checks)

    def test_some_in_full(self):
        strict = [(kind, (), ()) for kind in oracle.CLAIMS if kind not in ("shut", "isshut")]
        book = Book([*strict, *checks_of("shut done if", "isshut shut if open")])
        expected = [((("shut",), False), at) for at in oracle.STANDINGS]
        expected += [((("isshut",), False), at) for at in oracle.STANDINGS if at[1]]
        self.assertEqual(made_up(book), expected)
        self.assertEqual(made_up(Book([(kind, (), ()) for kind in oracle.CLAIMS])), [])
        self.assertEqual(len(made_up(Book([]))), 42 * 18 - len(oracle.TRUE))

    def test_it_belongs_to_the_caller(self):
        book = Book([])
        many = len(made_up(book))
        made_up(book).clear()
        self.assertEqual(len(made_up(book)), many)


class RefusedTruthsTest(unittest.TestCase):
    def search(self, checks, ahead, meanwhile):
        rows = []
        for before in oracle.STANDINGS:
            for deed, answer in oracle.EVENTS:
                given, after = oracle.done(before, deed)
                if repr(given) != repr(answer):
                    continue
                for shown in oracle.STANDINGS:
                    if meanwhile:
                        fits = before in oracle.REACHABLE[shown] if ahead else shown in oracle.REACHABLE[after]
                    else:
                        fits = shown == (before if ahead else after)
                    if fits and not oracle.lets(checks, (deed, answer), shown):
                        rows.append((before, (deed, answer), shown))
        return rows

    def test_against_a_search(self):
        rng = random.Random(20)
        books = [[], list(Book.freest(ALL)), [(kind, (), ()) for kind in oracle.CLAIMS]]
        books += [oracle.random_checks(rng, many) for many in (1, 4, 10, 40, 80)]
        for checks in books:
            book = Book(checks)
            for ahead in (False, True):
                for meanwhile in (False, True):
                    found = refused_truths(book, ahead=ahead, meanwhile=meanwhile)
                    self.assertEqual(repr(found), repr(self.search(checks, ahead, meanwhile)))
            self.assertEqual(refused_truths(book), refused_truths(book, ahead=False, meanwhile=False))
            self.assertEqual(refused_truths(book, ahead=True), refused_truths(book, ahead=True, meanwhile=False))
            self.assertEqual(list(book), checks)

    def test_a_fair_book_refuses_no_truth_after_the_deed(self):
        for promises in oracle.PROMISE_LISTS:
            self.assertEqual(refused_truths(Book.freest(promises)), [])

    def test_some_in_full(self):
        take, gone = (("take", "a"), True), (None, False)
        book = Book.parsed(["take done if there open"])
        goes = [((value, changes, True), False) for value in (0, 1) for changes in (False, True)]
        self.assertEqual(refused_truths(book), [])
        self.assertEqual(refused_truths(book, ahead=True), [(at, take, at) for at in goes])
        there = [at for at in oracle.STANDINGS if at[0] is not None and not at[1]]
        # The field is taken, and before the check comes other hands put another one there.
        found = refused_truths(book, meanwhile=True)
        self.assertEqual(found, [(before, take, shown) for before in [gone, *goes] for shown in there])
        found = refused_truths(book, ahead=True, meanwhile=True)
        before = [at for at in oracle.STANDINGS if at[0] is None or at[0][2]]
        expected = [(at, take, shown) for at in before for shown in there if at in oracle.REACHABLE[shown]]
        self.assertEqual(found, expected)

    def test_shut_and_isshut(self):
        book = Book.parsed(["shut done if open", "isshut open if shut"])
        opened = [at for at in oracle.STANDINGS if not at[1]]
        self.assertEqual(refused_truths(book), [])
        self.assertEqual(refused_truths(book, ahead=True), [(at, (("shut",), True), at) for at in opened])
        found = refused_truths(book, meanwhile=True)
        self.assertEqual({(event, before[1], shown[1]) for before, event, shown in found}, {((("isshut",), False), False, True)})


if __name__ == "__main__":
    unittest.main()
