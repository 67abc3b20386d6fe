import random
import unittest

import oracle
from lyingstandins.books import Book
from lyingstandins.errors import BadAnswer, Lie, Promise, Refused, StandInError
from lyingstandins.things import Script, StandIn, Thing

NOTHING = Book([])
NINE = {
    "look": ("look", "c"),
    "has": ("has", "c"),
    "get": ("get", "c"),
    "set": ("set", "c", 1),
    "define": ("define", "c", 1, True, True),
    "take": ("take", "c"),
    "names": ("names",),
    "shut": ("shut",),
    "isshut": ("isshut",),
}
RIGHT = {
    "look": [None, (0, False, False), (9, True, True), (1, True, False)],
    "has": [True, False],
    "get": [None, 0, 1, 9],
    "set": [True, False],
    "define": [True, False],
    "take": [True, False],
    "names": [(), ("h",), ("b", "a"), tuple("hgfedcba"), tuple("abcdefgh")],
    "shut": [True, False],
    "isshut": [True, False],
}
NOT_BOOL = [0, 1, None, 2, "True", "", (), (True,), [], [True], 1.0]
WRONG = {
    "look": [
        True, False, 0, 1, 5, "a", "", (), [], (0,), (0, True), (0, True, True, True), [0, True, True],
        ("c", 0, True, True), (10, True, True), (-1, True, True), (True, True, True), (False, False, False),
        (None, True, True), ("0", True, True), (0.0, True, True), ((0,), True, True), (0, 1, True), (0, True, 0),
        (0, 0, 0), (0, None, True), (0, True, None), (0, "True", True), ((0, True, True),), {}, "None",
    ],
    "has": NOT_BOOL,
    "get": [True, False, -1, 10, 100, "0", "", 0.0, (0,), (), [], [0], (0, True, True)],
    "set": NOT_BOOL,
    "define": NOT_BOOL,
    "take": NOT_BOOL,
    "names": [
        None, True, False, 0, [], ["a"], ["a", "b"], "a", "abc", "", {"a"}, {"a": 1}, ("a", "a"), ("a", "b", "a"),
        ("A",), ("i",), ("z",), ("ab",), ("",), (" ",), ("a ",), ("a", "B"), (0,), (None,), (True,), (b"a",),
        (("a",),), ("a", ["b"]), ("a", "i"), tuple("abcdefghi"), tuple("abcdefgha"), ("true",),
    ],
    "shut": NOT_BOOL,
    "isshut": NOT_BOOL,
}


class Spy:
    """A plain thing that tells what it was asked, and raises what it is told to raise."""

    def __init__(self, rows=(), raising=()):
        self.thing, self.asked, self.raising = Thing(rows), [], list(raising)

    def ask(self, deed):
        self.asked.append(deed)
        if deed in self.raising:
            raise KeyError(deed)
        return self.thing.ask(deed)


class ScriptTest(unittest.TestCase):
    def test_no_rows_ask_the_thing_behind_the_same_deed(self):
        for script in (Script(), Script([]), Script(())):
            spy = Spy([("c", 1, True, True)])
            self.assertEqual(script(spy, ("get", "c")), 1)
            self.assertEqual(spy.asked, [("get", "c")])
            self.assertEqual(script.left, 0)

    def test_an_answer_of_the_row(self):
        for kind, deed in NINE.items():
            for answer in RIGHT[kind] + WRONG[kind]:
                spy, script = Spy(), Script([(deed, [], answer)])
                self.assertEqual(repr(script(spy, deed)), repr(answer))
                self.assertEqual(spy.asked, [])
                self.assertEqual(script.left, 0)

    def test_the_answer_true_asks_the_thing_behind_the_same_deed(self):
        for deed in NINE.values():
            spy, script = Spy([("c", 4, True, True)]), Script([(deed, [], "true")])
            plain = Thing([("c", 4, True, True)])
            self.assertEqual(repr(script(spy, deed)), repr(plain.ask(deed)))
            self.assertEqual(spy.asked, [deed])
            self.assertEqual(script.left, 0)

    def test_true_is_not_the_string(self):
        spy, script = Spy(), Script([(("has", "a"), [], True), (("has", "a"), [], "true")])
        self.assertIs(script(spy, ("has", "a")), True)
        self.assertEqual(spy.asked, [])
        self.assertIs(script(spy, ("has", "a")), False)
        self.assertEqual(spy.asked, [("has", "a")])

    def test_the_first_deeds_are_done_in_order(self):
        first = [("set", "a", 1), ("names",), ("set", "b", 2), ("take", "a"), ("names",)]
        spy, script = Spy(), Script([(("get", "b"), first, "true")])
        self.assertEqual(script(spy, ("get", "b")), 2)
        self.assertEqual(spy.asked, [*first, ("get", "b")])
        self.assertEqual(spy.thing.ask(("names",)), ("b",))

    def test_the_first_deeds_are_done_before_an_answer_of_the_row(self):
        spy, script = Spy(), Script([(("get", "b"), [("set", "b", 2)], 7)])
        self.assertEqual(script(spy, ("get", "b")), 7)
        self.assertEqual(spy.asked, [("set", "b", 2)])
        self.assertEqual(script(spy, ("get", "b")), 2)

    def test_equal_deeds_in_several_rows(self):
        deed, other = ("get", "a"), ("get", "b")
        script = Script([(deed, [], 1), (other, [], 5), (deed, [], 2), (deed, [], "true"), (other, [], 6)])
        spy = Spy([("a", 9, True, True)])
        self.assertEqual(script.left, 5)
        answers = []
        for asked in (deed, deed, other, deed, deed, other, other):
            answers.append((script(spy, asked), script.left))
        self.assertEqual(answers, [(1, 4), (2, 3), (5, 2), (9, 1), (9, 1), (6, 0), (None, 0)])

    def test_only_an_equal_deed(self):
        script = Script([(("set", "a", 1), [], False)])
        spy = Spy()
        for deed in (("set", "a", 2), ("set", "b", 1), ("has", "a"), ("define", "a", 1, True, True)):
            script(spy, deed)
            self.assertEqual(script.left, 1)
        self.assertIs(script(spy, ("set", "a", 1)), False)
        self.assertEqual(script.left, 0)

    def test_a_row_is_used_up_even_if_a_first_deed_raises(self):
        deed, bad = ("get", "a"), ("shut",)
        spy = Spy(raising=[bad])
        script = Script([(deed, [("set", "a", 3), bad, ("set", "a", 4)], 1), (deed, [], 2)])
        with self.assertRaises(KeyError):
            script(spy, deed)
        self.assertEqual(spy.asked, [("set", "a", 3), bad])
        self.assertEqual(script.left, 1)
        self.assertEqual(script(spy, deed), 2)
        self.assertEqual(script.left, 0)

    def test_a_row_is_used_up_even_if_its_deed_raises(self):
        deed = ("get", "a")
        spy = Spy(raising=[deed])
        script = Script([(deed, [("names",)], "true"), (deed, [], 2)])
        with self.assertRaises(KeyError):
            script(spy, deed)
        self.assertEqual(spy.asked, [("names",), deed])
        self.assertEqual(script.left, 1)
        self.assertEqual(script(spy, deed), 2)
        with self.assertRaises(KeyError):
            script(spy, deed)

    def test_later_changes_of_the_passed_lists_have_no_effect(self):
        first = [("set", "a", 1)]
        rows = [(("get", "a"), first, "true")]
        script = Script(rows)
        first.append(("set", "a", 2))
        rows.append((("get", "a"), [], 5))
        rows[0] = (("get", "a"), [], 6)
        self.assertEqual(script.left, 1)
        self.assertEqual(script(Spy(), ("get", "a")), 1)
        self.assertEqual(script.left, 0)

    def test_a_later_change_of_a_list_as_an_answer_has_no_effect(self):
        answer = ["a", ["b"]]
        script = Script([(("names",), [], answer), (("names",), [], (answer,))])
        answer.append("c")
        answer[1].append("d")
        self.assertEqual(script(Spy(), ("names",)), ["a", ["b"]])
        self.assertEqual(script(Spy(), ("names",)), (["a", ["b"]],))

    def test_the_passed_lists_stay_as_they_are(self):
        first, deed = [("set", "a", 1)], ("get", "a")
        rows = [(deed, first, 1), (deed, first, "true")]
        script = Script(rows)
        script(Spy(), deed)
        script(Spy(), deed)
        self.assertEqual(rows, [(deed, [("set", "a", 1)], 1), (deed, [("set", "a", 1)], "true")])

    def test_left_is_a_property(self):
        self.assertIsInstance(vars(Script)["left"], property)
        self.assertIn("__call__", vars(Script))
        with self.assertRaises(AttributeError):
            Script().left = 3

    def test_one_script_of_two_stand_ins(self):
        # The row is no longer unused when its first deed comes to the same script.
        deed = ("get", "a")
        script = Script([(deed, [deed], 1), (deed, [], 2)])
        inner = StandIn(Thing(), script, NOTHING)
        outer = StandIn(inner, script, NOTHING)
        self.assertEqual(outer.ask(deed), 1)
        self.assertEqual(inner.history[0], (deed, 2))
        self.assertEqual(script.left, 0)


class AskedBehindTest(unittest.TestCase):
    """What is asked of the thing behind, and when."""

    def asked(self, deed, script, book=NOTHING):
        spy = Spy([("c", 1, True, True)])
        StandIn(spy, script, book).ask(deed)
        return spy.asked

    def after(self, deed):
        if deed == ("names",):
            return [*[("look", name) for name in "abcdefgh"], ("isshut",)]
        return [("isshut",)] if len(deed) == 1 else [("look", deed[1]), ("isshut",)]

    def test_after_the_answer_of_a_row(self):
        for kind, deed in NINE.items():
            answer = RIGHT[kind][0]
            self.assertEqual(self.asked(deed, Script([(deed, [], answer)])), self.after(deed))

    def test_after_a_true_answer(self):
        for deed in NINE.values():
            self.assertEqual(self.asked(deed, Script()), [deed, *self.after(deed)])
            first = [("set", "d", 1), ("names",)]
            asked = self.asked(deed, Script([(deed, first, "true")]))
            self.assertEqual(asked, [*first, deed, *self.after(deed)])

    def test_it_does_not_depend_on_the_book(self):
        # Even a book that has no check of the kind has the thing behind asked.
        for book in (NOTHING, Book.freest(["shut", "stays", "fixed", "never"])):
            for deed in NINE.values():
                self.assertEqual(self.asked(deed, Script(), book), [deed, *self.after(deed)])

    def test_all_is_asked_before_a_lie_is_raised(self):
        for deed in NINE.values():
            spy = Spy([("a", 1, True, True)])
            stand_in = StandIn(spy, Script(), Book([(deed[0], (), ())]))
            with self.assertRaises(Lie):
                stand_in.ask(deed)
            self.assertEqual(spy.asked, [deed, *self.after(deed)])

    def test_the_standing_is_that_after_the_answer(self):
        book = Book.parsed(["get if there"])
        script = Script([(("get", "c"), [("take", "c")], 1), (("get", "c"), [("set", "c", 1)], 1)])
        stand_in = StandIn(Thing([("c", 1, True, True)]), script, book)
        self.assertEqual(stand_in.ask(("get", "c")), 1)
        with self.assertRaises(Lie):
            stand_in.ask(("get", "c"))


class FormTest(unittest.TestCase):
    def test_every_answer_of_the_right_form(self):
        for kind, deed in NINE.items():
            for answer in RIGHT[kind]:
                stand_in = StandIn(Thing(), Script([(deed, [], answer)]), NOTHING)
                self.assertEqual(repr(stand_in.ask(deed)), repr(answer))
                self.assertEqual(repr(stand_in.history), repr([(deed, answer)]))

    def test_every_value_and_name(self):
        deed = ("look", "h")
        answers = [(value, *flags) for value in range(10) for flags in oracle.FLAGS]
        stand_in = StandIn(Thing(), Script([(deed, [], answer) for answer in answers]), NOTHING)
        self.assertEqual(repr([stand_in.ask(deed) for _ in answers]), repr(answers))
        deed = ("get", "h")
        stand_in = StandIn(Thing(), Script([(deed, [], value) for value in range(10)]), NOTHING)
        self.assertEqual(repr([stand_in.ask(deed) for _ in range(10)]), repr(list(range(10))))
        for name in oracle.NAMES:
            stand_in = StandIn(Thing(), Script([(("names",), [], (name,))]), NOTHING)
            self.assertEqual(stand_in.ask(("names",)), (name,))

    def test_every_answer_of_a_wrong_form(self):
        for kind, deed in NINE.items():
            for answer in WRONG[kind]:
                self.check_wrong(deed, answer)

    def check_wrong(self, deed, answer):
        spy, script = Spy(), Script([(deed, [("set", "a", 1)], answer)])
        # The form comes first: no check is asked, and nothing behind.
        stand_in = StandIn(spy, script, Book([(deed[0], (), ())]))
        with self.assertRaises(BadAnswer, msg=(deed, answer)) as caught:
            stand_in.ask(deed)
        self.assertEqual(caught.exception.deed, deed)
        self.assertEqual(repr(caught.exception.answer), repr(answer))
        self.assertEqual(spy.asked, [("set", "a", 1)])
        self.assertEqual(stand_in.history, [])
        self.assertEqual(script.left, 0)

    def test_a_number_that_cannot_be_written_out(self):
        huge = 10 ** 5000
        for deed, answer in ((NINE["get"], huge), (NINE["look"], (-huge, True, True)), (NINE["names"], (huge,))):
            with self.assertRaises(BadAnswer) as caught:
                StandIn(Thing(), Script([(deed, [], answer)]), NOTHING).ask(deed)
            self.assertTrue(caught.exception.answer == answer)

    def test_a_wrong_form_from_behind(self):
        class Odd:
            def ask(self, deed):
                return 1

        for kind, deed in NINE.items():
            if kind != "get":
                with self.assertRaises(BadAnswer) as caught:
                    StandIn(Odd(), Script(), NOTHING).ask(deed)
                self.assertEqual((caught.exception.deed, caught.exception.answer), (deed, 1))

    def test_the_row_after_a_bad_answer(self):
        deed = ("get", "a")
        stand_in = StandIn(Thing(), Script([(deed, [], 10), (deed, [], 9)]), NOTHING)
        with self.assertRaises(BadAnswer):
            stand_in.ask(deed)
        self.assertEqual(stand_in.ask(deed), 9)
        self.assertEqual(stand_in.history, [(deed, 9)])


class LieTest(unittest.TestCase):
    def lie(self, stand_in, deed):
        before = stand_in.history
        with self.assertRaises(Lie) as caught:
            stand_in.ask(deed)
        lie = caught.exception
        self.assertEqual(stand_in.history, before)
        self.assertEqual(lie.deed, deed)
        self.assertIsInstance(lie, StandInError)
        self.assertIs(type(lie.__cause__), Promise)
        self.assertEqual(lie.__cause__.check, lie.check)
        return lie

    def test_for_each_kind_of_deed_and_each_answer(self):
        for kind, deed in NINE.items():
            for answer in RIGHT[kind]:
                check = (kind, (), ())
                script = Script([(deed, [], answer)])
                lie = self.lie(StandIn(Thing(), script, Book([check])), deed)
                self.assertEqual(repr(lie.answer), repr(answer))
                self.assertEqual(lie.check, check)
                self.assertEqual(script.left, 0)

    def test_only_the_kind_of_the_deed(self):
        book = Book([(kind, (), ()) for kind in NINE if kind != "get"])
        stand_in = StandIn(Thing(), Script(), book)
        self.assertIsNone(stand_in.ask(("get", "c")))
        for kind in NINE:
            if kind != "get":
                self.lie(stand_in, NINE[kind])
        self.assertEqual(stand_in.history, [(("get", "c"), None)])

    def test_one_lie_of_each_kind_by_what_is_shown(self):
        there, shut = [("c", 1, False, False)], [("shut",)]
        cases = [
            ("look gone if stays", there, [], None),
            ("look there firm if other shut", there, shut, (2, False, False)),
            ("has gone if firm open", there, [], False),
            ("get there if other", there, [], 0),
            ("set done if firm", there, [], True),
            ("set not if gone open", [], [], False),
            ("define done goes if stays", there, [], True),
            ("define not if gone open", [], [], False),
            ("take done if there", there, [], True),
            ("names gone if there", there, [], ()),
            ("shut not if open", there, [], False),
            ("shut not if shut", there, shut, False),
            ("isshut shut if open", there, [], True),
            ("isshut open if shut", there, shut, False),
        ]
        for line, rows, first, answer in cases:
            deed, book = NINE[line.split()[0]], Book.parsed([line])
            lie = self.lie(StandIn(Thing(rows), Script([(deed, first, answer)]), book), deed)
            self.assertEqual(repr(lie.answer), repr(answer))
            self.assertEqual([lie.check], list(book))
            # The true answer is let by.
            true = StandIn(Thing(rows), Script([(deed, first, "true")]), book)
            self.assertEqual(true.history, [])
            answer = true.ask(deed)
            self.assertEqual(true.history, [(deed, answer)])

    def test_the_first_check_in_the_order_of_the_book(self):
        lines = ["get if shut", "get there if gone", "get if", "get there if"]
        deed = ("get", "b")
        for order in (lines, lines[::-1], lines[1:], lines[2:]):
            stand_in = StandIn(Thing(), Script([(deed, [], 3)]), Book.parsed(order))
            lie = self.lie(stand_in, deed)
            expected = [line for line in order if line != "get if shut"][0]
            self.assertEqual([lie.check], list(Book.parsed([expected])))

    def test_names_by_name_and_then_in_the_order_of_the_book(self):
        rows = [("g", 1, False, False), ("c", 1, True, False), ("e", 1, True, True)]
        firm, changes, stays = Book.parsed(["names gone if firm", "names gone if changes", "names gone if stays"])
        cases = [
            ((), [firm, changes, stays], changes),
            ((), [firm, stays, changes], stays),
            ((), [firm], firm),
            (("c",), [firm, changes], changes),
            (("c", "e"), [changes, firm, stays], firm),
            (("e", "c"), [changes, stays, firm], stays),
            (("g", "c"), [stays, changes], changes),
        ]
        for answer, checks, expected in cases:
            stand_in = StandIn(Thing(rows), Script([(("names",), [], answer)]), Book(checks))
            lie = self.lie(stand_in, ("names",))
            self.assertEqual((lie.answer, lie.check), (answer, expected))

    def test_names_with_eight_names(self):
        rows = [(name, at, True, at % 2 == 0) for at, name in enumerate("hgfedcba")]
        book = Book.parsed(["names gone if there", "names there if gone"])
        stand_in = StandIn(Thing(rows), Script(), book)
        self.assertEqual(stand_in.ask(("names",)), tuple("hgfedcba"))
        script = Script([(("names",), [], tuple("abcdefgh")), (("names",), [], tuple("abcdefg"))])
        stand_in = StandIn(Thing(rows), script, book)
        self.assertEqual(stand_in.ask(("names",)), tuple("abcdefgh"))
        self.assertEqual(self.lie(stand_in, ("names",)).check, list(book)[0])
        for missing in "abcdefgh":
            left = [row for row in rows if row[0] != missing]
            script = Script([(("names",), [], tuple("hgfedcba"))])
            self.assertEqual(self.lie(StandIn(Thing(left), script, book), ("names",)).check, list(book)[1])

    def test_a_book_that_grows_between_two_deeds(self):
        book = Book([])
        stand_in = StandIn(Thing([("a", 1, True, True)]), Script([(("get", "a"), [], 2)] * 3), book)
        self.assertEqual(stand_in.ask(("get", "a")), 2)
        other_name = book
        other_name |= Book.parsed(["get gone if there"])
        self.assertEqual(stand_in.ask(("get", "a")), 2)
        book |= Book.parsed(["get there if other"])
        self.assertEqual(self.lie(stand_in, ("get", "a")).check, ("get", ("there",), ("other",)))
        self.assertEqual(stand_in.ask(("get", "a")), 1)
        self.assertEqual(stand_in.history, [(("get", "a"), 2), (("get", "a"), 2), (("get", "a"), 1)])

    def test_the_shown_standing_is_what_the_stand_in_behind_tells(self):
        inner_script = Script([(("look", "a"), [], (5, True, True)), (("isshut",), [], True)])
        inner = StandIn(Thing(), inner_script, NOTHING)
        book = Book.parsed(["get there if gone", "get if there open", "get there if other shut"])
        outer = StandIn(inner, Script([(("get", "a"), [], 5)] * 2), book)
        self.assertEqual(outer.ask(("get", "a")), 5)
        self.assertEqual(inner.history, [(("look", "a"), (5, True, True)), (("isshut",), True)])
        self.assertEqual(self.lie(outer, ("get", "a")).check, ("get", ("there",), ("gone",)))

    def test_for_shut_and_isshut_only_isshut_is_shown(self):
        book = Book.parsed(["shut done if open", "isshut shut if open"])
        script = Script([(("shut",), [], True), (("isshut",), [], True)])
        stand_in = StandIn(Thing([("a", 1, False, False)]), script, book)
        self.assertEqual(self.lie(stand_in, ("shut",)).check, ("shut", ("done",), ("open",)))
        self.assertEqual(self.lie(stand_in, ("isshut",)).check, ("isshut", ("shut",), ("open",)))
        self.assertIs(stand_in.ask(("shut",)), True)
        self.assertIs(stand_in.ask(("isshut",)), True)


class RowOfStandInsTest(unittest.TestCase):
    def row(self, thing, many, book):
        rows = [thing]
        for _ in range(many):
            rows.append(StandIn(rows[-1], Script(), book))
        return rows

    def test_true_answers_through_up_to_six(self):
        rows = [("b", 3, False, False), ("g", 0, True, True)]
        for many in range(1, 7):
            book = Book.freest(list(oracle.PROMISES))
            behind = self.row(Thing(rows), many, book)
            plain, rng = oracle.PlainThing(rows), random.Random(many)
            deeds = [oracle.random_deed(rng, "abg", (0, 3)) for _ in range(8)]
            for deed in deeds:
                self.assertEqual(repr(behind[-1].ask(deed)), repr(plain.ask(deed)))
            self.assertEqual([deed for deed, _ in behind[-1].history], deeds)

    def test_the_histories_of_all(self):
        thing, inner, middle, outer = self.row(Thing([("a", 1, True, True)]), 3, NOTHING)
        self.assertEqual(outer.ask(("get", "a")), 1)
        look, isshut = (("look", "a"), (1, True, True)), (("isshut",), False)
        get = (("get", "a"), 1)
        self.assertEqual(outer.history, [get])
        self.assertEqual(middle.history, [get, look, isshut])
        # For each event of the one in front: the same deed, then what is shown.
        told = [get, look, isshut, look, look, isshut, isshut, isshut]
        self.assertEqual(inner.history, told)
        expected = []
        for event in told:
            expected += [event, isshut] if event == isshut else [event, look, isshut]
        self.assertEqual(thing.history, expected)

    def test_an_error_of_one_behind_is_passed_on(self):
        deed = ("get", "a")
        inner_script = Script([(deed, [], 4)])
        inner = StandIn(Thing(), inner_script, Book.parsed(["get there if gone"]))
        outer_script = Script([(deed, [("names",)], "true")])
        outer = StandIn(inner, outer_script, NOTHING)
        with self.assertRaises(Lie) as caught:
            outer.ask(deed)
        self.assertEqual((caught.exception.deed, caught.exception.answer), (deed, 4))
        self.assertEqual(caught.exception.check, ("get", ("there",), ("gone",)))
        self.assertEqual(outer.history, [])
        self.assertEqual(inner.history, [(("names",), ())])
        self.assertEqual([inner_script.left, outer_script.left], [0, 0])

    def test_an_error_while_the_one_behind_shows(self):
        inner = StandIn(Thing(), Script([(("look", "a"), [], "odd")]), NOTHING)
        outer = StandIn(inner, Script([(("has", "a"), [], True)]), NOTHING)
        with self.assertRaises(BadAnswer) as caught:
            outer.ask(("has", "a"))
        self.assertEqual((caught.exception.deed, caught.exception.answer), (("look", "a"), "odd"))
        self.assertEqual([outer.history, inner.history], [[], []])
        inner = StandIn(Thing(), Script([(("isshut",), [], True)]), Book.parsed(["isshut shut if open"]))
        for deed in NINE.values():
            inner = StandIn(Thing(), Script([(("isshut",), [], True)]), Book.parsed(["isshut shut if open"]))
            outer = StandIn(inner, Script([(deed, [], RIGHT[deed[0]][0])]), NOTHING)
            with self.assertRaises(Lie) as caught:
                outer.ask(deed)
            self.assertEqual(caught.exception.deed, ("isshut",))
            self.assertEqual(outer.history, [])

    def test_an_error_of_another_kind_is_passed_on(self):
        for raising in (("get", "a"), ("look", "a"), ("isshut",)):
            spy = Spy(raising=[raising])
            stand_in = StandIn(spy, Script(), NOTHING)
            with self.assertRaises(KeyError):
                stand_in.ask(("get", "a"))
            self.assertEqual(stand_in.history, [])

    def test_shown_of_a_stand_in(self):
        script = Script([(("isshut",), [], True), (("look", "b"), [], (2, False, True))])
        stand_in = StandIn(Thing(), script, NOTHING)
        self.assertEqual(stand_in.shown("b"), ((2, False, True), True))
        self.assertEqual(stand_in.history, [(("look", "b"), (2, False, True)), (("isshut",), True)])
        self.assertEqual(stand_in.shown("b"), (None, False))

    def test_the_history_is_a_new_list(self):
        stand_in = StandIn(Thing(), Script(), NOTHING)
        stand_in.ask(("names",))
        stand_in.history.clear()
        self.assertEqual(stand_in.history, [(("names",), ())])

    def test_refused_is_not_raised_by_a_deed(self):
        stand_in = StandIn(Thing([("a", 1, False, False)]), Script(), NOTHING)
        try:
            self.assertIs(stand_in.ask(("set", "a", 2)), False)
        except Refused:
            self.fail("a deed that is answered by False raises nothing")

    def test_random_rows_of_stand_ins_against_the_words_of_the_document(self):
        rng = random.Random(9)
        outcomes = {"told": 0, "lie": 0}
        for _ in range(250):
            checks = oracle.random_checks(rng, rng.choice([0, 2, 6, 20]))
            rows = [(name, *oracle.random_field(rng, (0, 1))) for name in rng.sample("abc", rng.randint(0, 3))]
            self.check_row(rng, rows, checks, outcomes)
        self.assertGreater(min(outcomes.values()), 200)

    def check_row(self, rng, rows, checks, outcomes):
        book, stand_ins, plain, scripts = Book(checks), [Thing(rows)], [oracle.PlainThing(rows)], []
        for _ in range(rng.randint(1, 4)):
            script = [self.script_row(rng) for _ in range(rng.choice([0, 5, 30]))]
            scripts.append(Script(script))
            stand_ins.append(StandIn(stand_ins[-1], scripts[-1], book))
            plain.append(oracle.PlainStandIn(plain[-1], script, checks))
        for _ in range(12):
            deed = oracle.random_deed(rng, "abc", (0, 1))
            try:
                expected = ("told", deed, plain[-1].ask(deed))
            except oracle.PlainStandIn.Raised as raised:
                expected = raised.args
            try:
                found = ("told", deed, stand_ins[-1].ask(deed))
            except Lie as lie:
                found = ("lie", lie.deed, lie.answer, lie.check)
            self.assertEqual(repr(found), repr(expected))
            outcomes[found[0]] += 1
        for one, other, script in zip(stand_ins[1:], plain[1:], scripts):
            self.assertEqual(repr(one.history), repr(other.history))
            self.assertEqual(script.left, len(other.rows))

    def script_row(self, rng):
        deed = oracle.random_deed(rng, "abc", (0, 1))
        first = [oracle.random_deed(rng, "abc", (0, 1)) for _ in range(rng.choice([0, 0, 1, 2]))]
        return (deed, first, rng.choice(["true", oracle.random_answer(rng, deed, "abc", (0, 1))]))


if __name__ == "__main__":
    unittest.main()
