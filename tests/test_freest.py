import itertools
import random
import unittest

import oracle
from lyingstandins.books import Book
from lyingstandins.checks import format_check, parse_check


def orders(promises):
    """The list, other orders of it, and lists with an item twice."""
    rows = [list(row) for row in itertools.islice(itertools.permutations(promises), 6)]
    rows.append(promises[::-1])
    if promises:
        rows += [promises + promises[:1], [promises[-1]] + promises, promises * 2]
    return rows


def words_of_both(event, shown):
    """The kind, and the words of the two sides of the narrowest check that refuses the event."""
    kind = event[0][0]
    behind = oracle.words_shown(event, shown) & set(oracle.behinds(kind))
    return kind, oracle.words_of_event(event, "a"), behind


def least_with(event, shown):
    """What every book lets by that lets by all that is true, and this event: where a book lets
    an event by, it lets all by that the narrowest check on it could not tell apart."""
    wanted = [words_of_both(*place) for place in oracle.TRUE | {(event, shown)}]
    let = set()
    for other in oracle.EVENTS:
        for at in oracle.STANDINGS:
            kind, claim, behind = words_of_both(other, at)
            if any(kind == also and claim <= said and behind <= seen for also, said, seen in wanted):
                let.add((other, at))
    return let


class FreestTest(unittest.TestCase):
    def test_at_most_40_checks_read_back_from_their_written_form(self):
        for promises in oracle.PROMISE_LISTS:
            for order in orders(promises):
                book = Book.freest(order)
                self.assertIsInstance(book, Book)
                self.assertLessEqual(len(book), 40)
                self.assertEqual(len(set(book)), len(book))
                for check in book:
                    self.assertEqual(parse_check(format_check(check)), check)

    def test_the_order_of_the_promises_and_doubles_do_not_matter(self):
        for promises in oracle.PROMISE_LISTS:
            expected = oracle.let_by(list(Book.freest(promises)))
            for order in orders(promises):
                passed = list(order)
                self.assertEqual(oracle.let_by(list(Book.freest(passed))), expected)
                self.assertEqual(passed, order)

    def test_fair(self):
        for promises in oracle.PROMISE_LISTS:
            book = Book.freest(promises)
            for event, standing in oracle.TRUE:
                self.assertIsNone(book.refuser(event, standing), (promises, event, standing))

    def test_no_lie_of_depth_1(self):
        for promises in oracle.PROMISE_LISTS:
            self.assertFalse(oracle.has_lie(list(Book.freest(promises)), promises), promises)

    def test_nothing_is_refused_for_no_promises(self):
        self.assertTrue(Book([]) <= Book.freest([]))

    def test_whatever_it_refuses_would_make_a_lie(self):
        for promises in [["shut"], ["stays"], ["fixed"], ["never"], list(oracle.PROMISES)]:
            let = oracle.let_by(list(Book.freest(promises)))
            known = {}
            for event in oracle.EVENTS:
                for shown in oracle.STANDINGS:
                    if (event, shown) in let:
                        continue
                    least = frozenset(least_with(event, shown))
                    if least not in known:
                        known[least] = oracle.has_lie_letting(least, promises)
                    self.assertTrue(known[least], (promises, event, shown))

    def test_each_list_refuses_what_its_promises_refuse_alone(self):
        # A lie about a list is a lie about one of its promises, so that with the test
        # before this one no book of these is too narrow.
        alone = {promise: oracle.let_by(list(Book.freest([promise]))) for promise in oracle.PROMISES}
        for promises in oracle.PROMISE_LISTS:
            expected = oracle.let_by([])
            for promise in promises:
                expected &= alone[promise]
            self.assertEqual(oracle.let_by(list(Book.freest(promises))), expected)

    def test_other_such_books_let_no_more_by(self):
        rng = random.Random(6)
        such = 0
        for _ in range(150):
            promises = rng.choice(oracle.PROMISE_LISTS[1:])
            freest = Book.freest(promises)
            checks = [check for check in freest if rng.random() < 0.97]
            checks += oracle.random_checks(rng, rng.choice([0, 1, 4, 30]))
            checks = [check for check in checks if oracle.is_fair([check])]
            if not oracle.has_lie(checks, promises):
                such += 1
                self.assertTrue(Book(checks) <= freest, (promises, checks))
            elif all(check in checks for check in freest):
                self.fail((promises, checks))
        self.assertGreater(such, 20)

    def test_two_books_do_not_share_their_checks(self):
        book = Book.freest(["shut"])
        many = len(book)
        book |= Book.parsed(["look if"])
        self.assertEqual(len(Book.freest(["shut"])), many)


if __name__ == "__main__":
    unittest.main()
