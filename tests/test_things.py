import random
import unittest

import oracle
from lyingstandins.errors import Refused, StandInError
from lyingstandins.things import Deeds, Recorded, StandIn, Thing


class Exact(unittest.TestCase):
    def assertExactly(self, found, expected, *more):
        # repr tells True from 1, False from 0, and a tuple from a list.
        self.assertEqual(repr(found), repr(expected), more)


class DeedsTest(Exact):
    class Answering(Deeds):
        def __init__(self, answers):
            self.answers, self.asked = answers, []

        def ask(self, deed):
            self.asked.append(deed)
            return self.answers[deed]

    def test_shown_asks_look_and_then_isshut(self):
        for field in (None, (4, False, True)):
            for shut in (False, True):
                thing = self.Answering({("look", "c"): field, ("isshut",): shut})
                self.assertExactly(thing.shown("c"), (field, shut))
                self.assertEqual(thing.asked, [("look", "c"), ("isshut",)])

    def test_shown_of_a_thing_is_recorded(self):
        thing = Thing([("b", 1, True, False)])
        self.assertExactly(thing.shown("b"), ((1, True, False), False))
        self.assertExactly(thing.shown("a"), (None, False))
        thing.ask(("shut",))
        self.assertExactly(thing.shown("b"), ((1, True, False), True))
        look, isshut = ("look", "b"), ("isshut",)
        expected = [
            (look, (1, True, False)), (isshut, False), (("look", "a"), None), (isshut, False),
            (("shut",), True), (look, (1, True, False)), (isshut, True),
        ]
        self.assertExactly(thing.history, expected)

    def test_the_bases(self):
        for made in (Thing, StandIn):
            self.assertTrue(issubclass(made, Deeds))
            self.assertTrue(issubclass(made, Recorded))
        self.assertIsInstance(vars(Recorded)["history"], property)
        self.assertIn("shown", vars(Deeds))
        self.assertIn("ask", vars(Thing))
        self.assertIn("ask", vars(StandIn))


class RecordedTest(Exact):
    def test_nothing_is_recorded_at_first(self):
        for recorded in (Recorded(), Thing(), Thing([("a", 0, True, True)])):
            self.assertExactly(recorded.history, [])

    def test_a_new_list_each_time(self):
        thing = Thing()
        thing.ask(("has", "a"))
        history = thing.history
        self.assertIsNot(thing.history, history)
        history.append("more")
        self.assertExactly(thing.history, [(("has", "a"), False)])
        thing.history.clear()
        self.assertExactly(thing.history, [(("has", "a"), False)])
        earlier = thing.history
        thing.ask(("names",))
        self.assertExactly(earlier, [(("has", "a"), False)])

    def test_the_history_is_not_assigned(self):
        with self.assertRaises(AttributeError):
            Thing().history = []

    def test_two_things_have_two_histories(self):
        one, two = Thing(), Thing()
        one.ask(("shut",))
        self.assertExactly(two.history, [])
        self.assertExactly(two.ask(("isshut",)), False)


class AskTest(Exact):
    def check(self, rows, shut, deed, answer, after):
        thing = Thing(rows)
        if shut:
            thing.ask(("shut",))
        self.assertExactly(thing.ask(deed), answer, rows, shut, deed)
        self.assertExactly(thing.history[-1], (deed, answer))
        left = [(name, *thing.ask(("look", name))) for name in thing.ask(("names",))]
        self.assertExactly(left, after, rows, shut, deed)
        self.assertExactly(thing.ask(("isshut",)), shut or deed == ("shut",))

    def test_all_deeds_on_all_fields(self):
        for name in oracle.NAMES:
            for shut in (False, True):
                for field in [None, *oracle.FIELDS, (9, True, False), (5, False, False)]:
                    rows = [] if field is None else [(name, *field)]
                    self.check_deeds(name, rows, shut)

    def check_deeds(self, name, rows, shut):
        deeds = [("look", name), ("has", name), ("get", name), ("take", name), ("names",), ("shut",), ("isshut",)]
        deeds += [("set", name, value) for value in (0, 1, 5, 9)]
        deeds += [("define", name, value, *flags) for value in (0, 1, 5, 9) for flags in oracle.FLAGS]
        for deed in deeds:
            expected = oracle.PlainThing(rows, shut)
            answer = expected.ask(deed)
            self.check(rows, shut, deed, answer, expected.rows)

    def test_each_condition_in_full(self):
        changes, goes = ("c", 2, True, False), ("c", 2, False, True)
        fixed, loose = ("c", 2, False, False), ("c", 2, True, True)
        # The fields; shut or open; the deed; the answer; the fields afterwards.
        cases = [
            ([], False, ("set", "c", 7), True, [("c", 7, True, True)]),
            ([], True, ("set", "c", 7), False, []),
            ([changes], True, ("set", "c", 7), True, [("c", 7, True, False)]),
            ([loose], False, ("set", "c", 7), True, [("c", 7, True, True)]),
            ([goes], False, ("set", "c", 7), False, [goes]),
            ([fixed], False, ("set", "c", 2), False, [fixed]),
            ([], False, ("define", "c", 7, False, False), True, [("c", 7, False, False)]),
            ([], True, ("define", "c", 7, True, True), False, []),
            ([goes], True, ("define", "c", 7, True, True), True, [("c", 7, True, True)]),
            ([goes], True, ("define", "c", 7, False, False), True, [("c", 7, False, False)]),
            ([loose], False, ("define", "c", 2, False, True), True, [("c", 2, False, True)]),
            ([changes], False, ("define", "c", 7, False, False), True, [("c", 7, False, False)]),
            ([changes], True, ("define", "c", 7, True, False), True, [("c", 7, True, False)]),
            ([changes], False, ("define", "c", 2, True, True), False, [changes]),
            ([changes], False, ("define", "c", 2, False, True), False, [changes]),
            ([fixed], False, ("define", "c", 2, False, False), True, [fixed]),
            ([fixed], True, ("define", "c", 3, False, False), False, [fixed]),
            ([fixed], False, ("define", "c", 2, True, False), False, [fixed]),
            ([fixed], False, ("define", "c", 2, False, True), False, [fixed]),
            ([], False, ("take", "c"), True, []),
            ([], True, ("take", "c"), True, []),
            ([goes], True, ("take", "c"), True, []),
            ([loose], False, ("take", "c"), True, []),
            ([changes], False, ("take", "c"), False, [changes]),
            ([fixed], False, ("take", "c"), False, [fixed]),
            ([loose], False, ("shut",), True, [loose]),
            ([], True, ("shut",), True, []),
        ]
        for rows, shut, deed, answer, after in cases:
            self.check(rows, shut, deed, answer, after)

    def test_the_value_0(self):
        thing = Thing([("a", 0, True, True)])
        self.assertExactly(thing.ask(("get", "a")), 0)
        self.assertExactly(thing.ask(("has", "a")), True)
        self.assertExactly(thing.ask(("look", "a")), (0, True, True))
        self.assertExactly(thing.ask(("set", "b", 0)), True)
        self.assertExactly(thing.ask(("get", "b")), 0)

    def test_rows_of_random_deeds(self):
        rng = random.Random(7)
        for _ in range(60):
            names = rng.sample(oracle.NAMES, rng.randint(0, 8))
            rows = [(name, *oracle.random_field(rng)) for name in names]
            thing, plain, history = Thing(rows), oracle.PlainThing(rows), []
            few = rng.sample(oracle.NAMES, rng.choice([2, 8]))
            for _ in range(120):
                deed = oracle.random_deed(rng, few)
                # A thing that is shut early shows little else.
                if deed == ("shut",) and rng.random() < 0.9:
                    continue
                history.append((deed, plain.ask(deed)))
                self.assertExactly(thing.ask(deed), history[-1][1], rows, history)
            self.assertExactly(thing.history, history)


class OrderTest(Exact):
    ROWS = [("d", 1, True, True), ("b", 2, True, True), ("h", 3, True, True), ("a", 4, True, True)]

    def order(self, *deeds):
        thing = Thing(self.ROWS)
        for deed in deeds:
            self.assertIs(thing.ask(deed), True)
        names = thing.ask(("names",))
        self.assertIs(type(names), tuple)
        self.assertEqual(list(thing), list(names))
        return "".join(names)

    def test_the_order_in_which_the_fields_came(self):
        self.assertEqual(self.order(), "dbha")
        self.assertEqual(self.order(("set", "c", 0)), "dbhac")
        self.assertEqual(self.order(("define", "g", 0, False, False), ("set", "c", 0)), "dbhagc")
        self.assertExactly(Thing().ask(("names",)), ())

    def test_a_replaced_field_keeps_its_place(self):
        self.assertEqual(self.order(("set", "b", 9), ("define", "d", 5, False, False), ("set", "h", 3)), "dbha")

    def test_a_field_that_was_taken_and_comes_again_comes_at_the_end(self):
        self.assertEqual(self.order(("take", "b")), "dha")
        self.assertEqual(self.order(("take", "b"), ("set", "b", 2)), "dhab")
        self.assertEqual(self.order(("take", "d"), ("take", "b"), ("define", "b", 2, True, True), ("set", "d", 1)), "habd")
        self.assertEqual(self.order(("take", "a"), ("set", "a", 4)), "dbha")

    def test_taking_what_is_not_there(self):
        self.assertEqual(self.order(("take", "c"), ("take", "c")), "dbha")


class RowsTest(Exact):
    def test_a_later_change_of_the_passed_list_has_no_effect(self):
        rows = [("a", 1, True, True)]
        thing = Thing(rows)
        rows.append(("b", 2, True, True))
        rows[0] = ("c", 3, True, True)
        self.assertExactly(thing.ask(("names",)), ("a",))
        self.assertExactly(thing.ask(("get", "a")), 1)

    def test_the_passed_list_stays_as_it_is(self):
        rows = [("a", 1, True, True), ("b", 2, True, True)]
        thing = Thing(rows)
        thing.ask(("take", "a"))
        thing["b"] = 5
        self.assertEqual(rows, [("a", 1, True, True), ("b", 2, True, True)])

    def test_two_things_of_the_same_rows(self):
        rows = (("a", 1, True, True),)
        one, two = Thing(rows), Thing(rows)
        one.ask(("take", "a"))
        self.assertExactly(two.ask(("look", "a")), (1, True, True))

    def test_no_rows(self):
        for thing in (Thing(), Thing([]), Thing(())):
            self.assertExactly(thing.ask(("names",)), ())
            self.assertExactly(thing.ask(("isshut",)), False)


class OperatorsTest(Exact):
    ROWS = [("c", 0, True, True), ("a", 7, False, False), ("b", 3, True, False)]

    def test_against_the_deeds(self):
        for shut in (False, True):
            thing, asked = Thing(self.ROWS), Thing(self.ROWS)
            if shut:
                thing.ask(("shut",))
                asked.ask(("shut",))
            before = thing.history
            for name in oracle.NAMES:
                self.assertExactly(thing[name], asked.ask(("get", name)))
                self.assertExactly(name in thing, asked.ask(("has", name)))
                self.assertExactly(name not in thing, not asked.ask(("has", name)))
            self.assertExactly(tuple(thing), asked.ask(("names",)))
            self.assertExactly([name for name in thing], ["c", "a", "b"])
            self.assertExactly(bool(thing), asked.ask(("isshut",)))
            self.assertExactly(thing.is_shut, asked.ask(("isshut",)))
            self.assertExactly(thing.history, before)

    def test_bool_is_true_if_it_is_shut(self):
        empty, full = Thing(), Thing(self.ROWS)
        for thing in (empty, full):
            self.assertIs(bool(thing), False)
            thing.is_shut = True
            self.assertIs(bool(thing), True)
            self.assertIs(thing.is_shut, True)

    def test_an_assigned_value_is_asked_as_a_set(self):
        thing = Thing(self.ROWS)
        thing["c"] = 5
        thing["e"] = 9
        self.assertExactly(thing.history, [(("set", "c", 5), True), (("set", "e", 9), True)])
        self.assertExactly(thing.ask(("look", "c")), (5, True, True))
        self.assertExactly(thing.ask(("look", "e")), (9, True, True))
        self.assertExactly(thing.ask(("names",)), ("c", "a", "b", "e"))

    def test_a_refused_value(self):
        thing = Thing(self.ROWS)
        for value in (7, 8):
            with self.assertRaises(Refused) as caught:
                thing["a"] = value
            self.assertExactly(caught.exception.deed, ("set", "a", value))
            self.assertIsInstance(caught.exception, StandInError)
        self.assertExactly(thing.history, [(("set", "a", 7), False), (("set", "a", 8), False)])
        self.assertExactly(thing["a"], 7)
        thing.is_shut = True
        with self.assertRaises(Refused) as caught:
            thing["h"] = 0
        self.assertExactly(caught.exception.deed, ("set", "h", 0))
        self.assertExactly(thing.history[-1], (("set", "h", 0), False))
        self.assertNotIn("h", thing)
        thing["b"] = 4
        self.assertExactly(thing["b"], 4)

    def test_is_shut_assigned_true(self):
        thing = Thing()
        thing.is_shut = True
        thing.is_shut = True
        self.assertExactly(thing.history, [(("shut",), True), (("shut",), True)])
        self.assertIs(thing.ask(("isshut",)), True)

    def test_is_shut_assigned_false(self):
        thing = Thing()
        thing.is_shut = False
        self.assertExactly(thing.history, [])
        self.assertIs(thing.is_shut, False)
        thing.is_shut = True
        with self.assertRaises(Refused) as caught:
            thing.is_shut = False
        self.assertExactly(caught.exception.deed, ("shut",))
        self.assertIs(thing.is_shut, True)
        self.assertExactly(thing.history, [(("shut",), True)])

    def test_a_loop_over_the_names_that_takes_them(self):
        thing = Thing([("c", 0, True, True), ("a", 7, True, True), ("b", 3, True, True)])
        for name in thing:
            thing.ask(("take", name))
        self.assertEqual(list(thing), [])

    def test_where_the_interface_lists_them(self):
        for name in ("ask", "__getitem__", "__setitem__", "__contains__", "__iter__", "__bool__", "is_shut"):
            self.assertIn(name, vars(Thing))
        self.assertIsInstance(vars(Thing)["is_shut"], property)


if __name__ == "__main__":
    unittest.main()
