import random
import unittest

import oracle
from lyingstandins.books import Book
from lyingstandins.checks import format_check, parse_check
from lyingstandins.errors import BadCheck

A = ("look", ("gone",), ("there", "shut"))
B = ("has", ("gone",), ("there",))
C = ("isshut", (), ())
D = ("names", ("there",), ("gone", "open"))
E = ("set", ("done",), ("firm", "other"))


class ChecksOfABookTest(unittest.TestCase):
    def test_the_checks_in_order(self):
        for checks in ([], [A], [A, B, C, D], [D, C, B, A]):
            book = Book(checks)
            self.assertEqual(list(book), checks)
            self.assertEqual(len(book), len(checks))
            for check in (A, B, C, D, E):
                self.assertIs(check in book, check in checks)
                self.assertIs(check not in book, check not in checks)

    def test_a_double_stands_at_its_first_place(self):
        self.assertEqual(list(Book([A, B, A])), [A, B])
        self.assertEqual(list(Book([B, A, A, B, C, A, D, C])), [B, A, C, D])
        self.assertEqual(len(Book([C, C, C])), 1)

    def test_a_check_that_is_equal_but_not_the_same_object_is_a_double(self):
        again = parse_check(format_check(A))
        self.assertIsNot(again, A)
        self.assertEqual(list(Book([A, B, again])), [A, B])
        self.assertIn(again, Book([A]))

    def test_what_is_in_no_book(self):
        for other in ("look", "look gone if there shut", None, 0, (), ("look", ("gone",)), ("look", ("gone",), ("shut",))):
            self.assertNotIn(other, Book([A, B, C]))

    def test_a_later_change_of_the_passed_list_has_no_effect(self):
        checks = [A, B]
        book = Book(checks)
        checks.append(C)
        checks[0] = D
        self.assertEqual(list(book), [A, B])
        checks.clear()
        self.assertEqual(len(book), 2)

    def test_the_passed_list_stays_as_it_is(self):
        checks = [A, B, A, C]
        Book(checks)
        self.assertEqual(checks, [A, B, A, C])

    def test_it_can_be_iterated_over_again_and_side_by_side(self):
        book = Book([A, B])
        self.assertEqual([(x, y) for x in book for y in book], [(A, A), (A, B), (B, A), (B, B)])
        self.assertEqual([check for check in book], [A, B])

    def test_the_empty_book(self):
        book = Book([])
        self.assertEqual(len(book), 0)
        self.assertEqual(list(book), [])
        self.assertNotIn(A, book)
        for event in oracle.EVENTS:
            for standing in oracle.STANDINGS:
                self.assertIsNone(book.refuser(event, standing))

    def test_80_checks(self):
        checks = oracle.random_checks(random.Random(80), 80)
        book = Book(checks + checks)
        self.assertEqual(list(book), checks)
        self.assertEqual(len(book), 80)
        self.assertTrue(all(check in book for check in checks))


class OperatorsTest(unittest.TestCase):
    def test_and(self):
        first, second = Book([A, B, C, D]), Book([D, E, B])
        self.assertEqual(list(first & second), [B, D])
        self.assertEqual(list(second & first), [D, B])
        self.assertEqual(list(first & Book([])), [])
        self.assertEqual(list(Book([]) & first), [])
        self.assertEqual(list(first & first), [A, B, C, D])

    def test_minus(self):
        first, second = Book([A, B, C, D]), Book([D, E, B])
        self.assertEqual(list(first - second), [A, C])
        self.assertEqual(list(second - first), [E])
        self.assertEqual(list(first - Book([])), [A, B, C, D])
        self.assertEqual(list(Book([]) - first), [])
        self.assertEqual(list(first - first), [])

    def test_both_books_stay_as_they_are(self):
        first, second = Book([A, B, C]), Book([C, D])
        for made in (first & second, first - second):
            self.assertIsInstance(made, Book)
            self.assertIsNot(made, first)
            made |= Book([E])
            self.assertEqual(list(first), [A, B, C])
            self.assertEqual(list(second), [C, D])

    def test_doubles_in_both_books(self):
        first, second = Book([B, A, B]), Book([A, A, C])
        self.assertEqual(list(first & second), [A])
        self.assertEqual(list(first - second), [B])
        first |= second
        self.assertEqual(list(first), [B, A, C])

    def test_or_adds_the_others_at_the_end(self):
        book = Book([C, A])
        book |= Book([D, A, B, C])
        self.assertEqual(list(book), [C, A, D, B])
        self.assertEqual(len(book), 4)
        book |= Book([])
        self.assertEqual(list(book), [C, A, D, B])

    def test_or_changes_the_object_under_all_its_names(self):
        book = Book([A])
        other_name = book
        holder = {"book": book}
        book |= Book([B])
        self.assertIs(book, other_name)
        self.assertEqual(list(other_name), [A, B])
        other_name |= Book([C])
        holder["book"] |= Book([D, A])
        self.assertEqual(list(book), [A, B, C, D])
        self.assertIs(holder["book"], book)
        self.assertIs(other_name, book)

    def test_or_leaves_the_other_book_as_it_is_and_apart(self):
        book, other = Book([A]), Book([B, A])
        book |= other
        self.assertEqual(list(other), [B, A])
        other |= Book([C])
        self.assertEqual(list(book), [A, B])
        book |= Book([D])
        self.assertEqual(list(other), [B, A, C])

    def test_or_with_itself(self):
        book = Book([A, B])
        book |= book
        self.assertEqual(list(book), [A, B])

    def test_a_changed_book_refuses_more(self):
        book = Book([])
        other_name = book
        event, shown = (("look", "a"), None), ((0, True, True), True)
        self.assertIsNone(other_name.refuser(event, shown))
        book |= Book([A])
        self.assertEqual(other_name.refuser(event, shown), A)


class LetsByNoMoreTest(unittest.TestCase):
    def check(self, first, second):
        expected = oracle.let_by(first) <= oracle.let_by(second)
        self.assertIs(Book(first) <= Book(second), expected, (first, second))
        return expected

    def test_against_all_events_and_standings(self):
        rng = random.Random(1)
        results = []
        for _ in range(60):
            first = oracle.random_checks(rng, rng.choice([0, 1, 2, 5, 20, 80]))
            second = rng.choice([first, oracle.random_checks(rng, rng.choice([0, 1, 2, 5]))])
            second = rng.sample(second, rng.randint(0, len(second)))
            results += [self.check(first, second), self.check(second, first)]
        self.assertIn(True, results)
        self.assertIn(False, results)

    def test_books_of_one_kind(self):
        rng = random.Random(2)
        for kind in oracle.CLAIMS:
            for _ in range(12):
                first = oracle.random_checks(rng, rng.choice([1, 2]), [kind], 2)
                second = oracle.random_checks(rng, rng.choice([1, 2]), [kind], 2)
                self.check(first, second)
                self.check(second, first)

    def test_some_pairs_both_ways(self):
        cases = [
            ([], [], True, True),
            (["look if"], [], True, False),
            (["look gone if"], ["look gone if there"], True, False),
            (["look gone if there"], ["look gone if goes", "look gone if stays"], True, True),
            (["look if there"], ["look if there other"], True, False),
            (["get there if other"], ["get gone if other"], True, False),
            (["look gone there if"], [], True, True),
            (["isshut if shut", "isshut if open"], ["isshut if"], True, True),
            (["has if"], ["get if"], False, False),
            (["shut done if open"], ["shut if open"], False, True),
            (["set if there other"], ["set if other"], True, True),
        ]
        for first, second, there, back in cases:
            one, two = Book.parsed(first), Book.parsed(second)
            self.assertIs(one <= two, there, (first, second))
            self.assertIs(two <= one, back, (first, second))

    def test_the_order_of_the_checks_does_not_matter(self):
        checks = oracle.random_checks(random.Random(3), 20)
        one, two = Book(checks), Book(checks[::-1])
        self.assertIs(one <= two, True)
        self.assertIs(two <= one, True)

    def test_the_books_stay_as_they_are(self):
        one, two = Book([A, B]), Book([C])
        one <= two
        two <= one
        self.assertEqual([list(one), list(two)], [[A, B], [C]])

    def test_with_itself_and_after_a_change(self):
        book, other = Book([A]), Book([A])
        self.assertIs(book <= book, True)
        other |= Book([B])
        self.assertIs(other <= book, True)
        self.assertIs(book <= other, False)


class RefuserTest(unittest.TestCase):
    FIELDS = [(value, *flags) for value in (0, 3, 9) for flags in oracle.FLAGS]

    def events(self, name):
        rows = [(("look", name), None), (("get", name), None)]
        for field in self.FIELDS:
            rows += [(("look", name), field), (("define", name, *field), True), (("define", name, *field), False)]
        for value in (0, 3, 9):
            rows += [(("get", name), value), (("set", name, value), True), (("set", name, value), False)]
        for answer in (False, True):
            rows += [(("has", name), answer), (("take", name), answer), (("shut",), answer), (("isshut",), answer)]
        others = [other for other in "hgfedcba" if other != name]
        for answer in ((), (name,), tuple(others), (*others[:3], name, *others[3:])):
            rows.append((("names",), answer))
        return rows

    def test_against_the_words_of_the_document(self):
        rng = random.Random(4)
        shown = [(field, shut) for field in [None, *self.FIELDS] for shut in (False, True)]
        refused = set()
        for name in "abh":
            for many in (1, 3, 10, 80):
                checks = oracle.random_checks(rng, many)
                book = Book(checks)
                for event in self.events(name):
                    for standing in shown:
                        expected = oracle.first_refuser(checks, event, standing, name)
                        self.assertEqual(book.refuser(event, standing, name=name), expected, (event, standing))
                        refused.add((event[0][0], expected is None))
        self.assertEqual(len(refused), 18)

    def test_the_name_is_a_where_none_is_passed(self):
        rng = random.Random(5)
        checks = oracle.random_checks(rng, 30)
        for event in self.events("a"):
            for standing in oracle.STANDINGS:
                expected = oracle.first_refuser(checks, event, standing, "a")
                self.assertEqual(Book(checks).refuser(event, standing), expected)

    def test_a_deed_has_a_name_of_its_own(self):
        book = Book.parsed(["look gone if there", "get there if other", "set done if firm"])
        field = ((1, False, True), True)
        for event in ((("look", "c"), None), (("get", "c"), 2), (("set", "c", 5), True)):
            self.assertEqual(book.refuser(event, field)[0], event[0][0])
        self.assertIsNone(book.refuser((("look", "c"), (1, False, True)), field))
        self.assertIsNone(book.refuser((("get", "c"), 1), field))

    def test_the_first_one_in_the_order_of_the_book(self):
        wide, narrow = parse_check("look if"), parse_check("look gone if there")
        event, there, gone = (("look", "a"), None), ((5, True, True), False), (None, False)
        self.assertEqual(Book([wide, narrow]).refuser(event, there), wide)
        self.assertEqual(Book([narrow, wide]).refuser(event, there), narrow)
        self.assertEqual(Book([narrow, wide]).refuser(event, gone), wide)
        self.assertIsNone(Book([narrow]).refuser(event, gone))

    def test_names_of_a_tuple(self):
        gone, there = parse_check("names gone if there"), parse_check("names there if gone")
        book = Book([gone, there])
        event = (("names",), ("c", "a"))
        field, nothing = ((1, False, False), True), (None, True)
        for name in "abcdefgh":
            inside = name in "ca"
            self.assertEqual(book.refuser(event, field, name=name), None if inside else gone)
            self.assertEqual(book.refuser(event, nothing, name=name), there if inside else None)

    def test_other(self):
        for line, deed, answer in [
            ("look if other", ("look", "d"), (7, True, False)),
            ("get if other", ("get", "d"), 7),
            ("set if other", ("set", "d", 7), True),
            ("set if other", ("set", "d", 7), False),
            ("define if other", ("define", "d", 7, False, True), True),
            ("define if other", ("define", "d", 7, False, True), False),
        ]:
            book, event = Book.parsed([line]), (deed, answer)
            self.assertIsNone(book.refuser(event, ((7, False, False), True), name="d"))
            self.assertIsNone(book.refuser(event, (None, True), name="d"))
            for value in (0, 6, 8, 9):
                self.assertEqual(book.refuser(event, ((value, False, False), True), name="d"), list(book)[0])
        for event in ((("look", "d"), None), (("get", "d"), None)):
            book = Book.parsed(["look if other", "get if other"])
            self.assertIsNone(book.refuser(event, ((7, True, True), False), name="d"))

    def test_two_words_of_one_pair_refuse_nothing(self):
        for line in ("look gone there if", "has if gone there", "set done not if", "isshut shut open if", "take if shut open"):
            book = Book.parsed([line])
            for event in oracle.EVENTS:
                for standing in oracle.STANDINGS:
                    self.assertIsNone(book.refuser(event, standing))

    def test_only_the_kind_of_the_deed(self):
        for kind in oracle.CLAIMS:
            book = Book([(kind, (), ())])
            for event in oracle.EVENTS:
                for standing in oracle.STANDINGS:
                    expected = (kind, (), ()) if event[0][0] == kind else None
                    self.assertEqual(book.refuser(event, standing), expected)

    def test_shut_and_isshut_with_no_field_shown(self):
        book = Book.parsed(["shut done if open", "isshut open if shut"])
        self.assertEqual(book.refuser((("shut",), True), (None, False)), ("shut", ("done",), ("open",)))
        self.assertIsNone(book.refuser((("shut",), True), (None, True)))
        self.assertIsNone(book.refuser((("shut",), False), (None, False)))
        self.assertEqual(book.refuser((("isshut",), False), (None, True), name="c"), ("isshut", ("open",), ("shut",)))
        self.assertIsNone(book.refuser((("isshut",), True), (None, True), name="c"))


class ParsedTest(unittest.TestCase):
    def test_the_checks_of_the_lines(self):
        lines = ["look gone if there shut", "isshut if", "set done if firm other"]
        book = Book.parsed(lines)
        self.assertIsInstance(book, Book)
        self.assertEqual([format_check(check) for check in book], lines)
        self.assertEqual(list(Book.parsed([])), [])

    def test_lines_of_the_same_check(self):
        book = Book.parsed(["has if shut gone", "isshut if", "has if gone shut"])
        self.assertEqual(list(book), [("has", (), ("gone", "shut")), ("isshut", (), ())])

    def test_the_line_that_is_not_a_check(self):
        for line in ("look", "", "look gone gone if", "look if  shut", "peek if", "shut if gone", "has if other", "look if "):
            for before in ([], ["isshut if"], ["isshut if", "look if"]):
                with self.assertRaises(BadCheck) as caught:
                    Book.parsed([*before, line, "has if"])
                self.assertEqual(caught.exception.line, line)

    def test_the_first_of_several_such_lines(self):
        with self.assertRaises(BadCheck) as caught:
            Book.parsed(["look if", "first", "second"])
        self.assertEqual(caught.exception.line, "first")

    def test_the_passed_lines_stay_as_they_are_and_apart(self):
        lines = ["look if", "has if"]
        book = Book.parsed(lines)
        self.assertEqual(lines, ["look if", "has if"])
        lines.append("get if")
        self.assertEqual(len(book), 2)

    def test_a_class_method_and_a_static_method(self):
        self.assertIsInstance(vars(Book)["parsed"], classmethod)
        self.assertIsInstance(vars(Book)["freest"], staticmethod)
        self.assertEqual(list(Book([]).parsed(["look if"])), [("look", (), ())])


if __name__ == "__main__":
    unittest.main()
