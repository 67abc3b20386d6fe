import inspect
import unittest

from lyingstandins.fields import act, can_pass, events, is_true, standings, way

FIELDS = [
    (0, False, False),
    (0, False, True),
    (0, True, False),
    (0, True, True),
    (1, False, False),
    (1, False, True),
    (1, True, False),
    (1, True, True),
]
FLAG_PAIRS = [(False, False), (False, True), (True, False), (True, True)]


def all_fields(values):
    return [(value, *flags) for value in values for flags in FLAG_PAIRS]


def all_standings(values):
    return [(field, shut) for field in [None, *all_fields(values)] for shut in (False, True)]


def all_deeds(name, values):
    return [
        ("look", name),
        ("has", name),
        ("get", name),
        *[("set", name, value) for value in values],
        *[("define", name, *field) for field in all_fields(values)],
        ("take", name),
        ("shut",),
        ("isshut",),
    ]


def distances(before, deeds):
    """The least number of deeds to each standing that a search from before reaches."""
    found = {before: 0}
    queue = [before]
    for standing in queue:
        for deed in deeds:
            after = act(standing, deed)[1]
            if after not in found:
                found[after] = found[standing] + 1
                queue.append(after)
    return found


class ListsTest(unittest.TestCase):
    def test_standings_in_order(self):
        expected = [(None, False), (None, True)]
        for field in FIELDS:
            expected.append((field, False))
            expected.append((field, True))
        self.assertEqual(repr(standings()), repr(expected))
        self.assertEqual(len(standings()), 18)

    def test_events_in_order(self):
        look, has, get = ("look", "a"), ("has", "a"), ("get", "a")
        expected = [(look, None), *[(look, field) for field in FIELDS]]
        expected += [(has, False), (has, True)]
        expected += [(get, None), (get, 0), (get, 1)]
        for value in (0, 1):
            expected += [(("set", "a", value), False), (("set", "a", value), True)]
        for field in FIELDS:
            expected += [(("define", "a", *field), False), (("define", "a", *field), True)]
        expected += [(("take", "a"), False), (("take", "a"), True)]
        expected += [(("names",), ()), (("names",), ("a",))]
        expected += [(("shut",), False), (("shut",), True)]
        expected += [(("isshut",), False), (("isshut",), True)]
        self.assertEqual(repr(events()), repr(expected))
        self.assertEqual(len(events()), 42)
        self.assertEqual(len(set(map(repr, events()))), 42)

    def test_they_are_lists_of_pairs_as_tuples(self):
        for rows in (standings(), events()):
            self.assertIs(type(rows), list)
            for row in rows:
                self.assertIs(type(row), tuple)
                self.assertEqual(len(row), 2)

    def test_a_changed_list_has_no_effect_on_the_next_call(self):
        for make in (standings, events):
            whole = repr(make())
            rows = make()
            rows.reverse()
            del rows[3:]
            self.assertEqual(repr(make()), whole)
            self.assertIsNot(make(), make())


class ActTest(unittest.TestCase):
    def check(self, before, deed, answer, after):
        # repr tells True from 1 and False from 0.
        self.assertEqual(repr(act(before, deed)), repr((answer, after)), (before, deed))

    def test_look_has_and_get(self):
        for shut in (False, True):
            before = (None, shut)
            self.check(before, ("look", "a"), None, before)
            self.check(before, ("has", "a"), False, before)
            self.check(before, ("get", "a"), None, before)
            for field in all_fields(range(10)):
                before = (field, shut)
                self.check(before, ("look", "a"), field, before)
                self.check(before, ("has", "a"), True, before)
                self.check(before, ("get", "a"), field[0], before)

    def test_set_without_the_field(self):
        for value in range(10):
            deed = ("set", "a", value)
            self.check((None, False), deed, True, ((value, True, True), False))
            self.check((None, True), deed, False, (None, True))

    def test_set_with_the_field(self):
        for old in range(10):
            for new in range(10):
                deed = ("set", "a", new)
                for shut in (False, True):
                    for goes in (False, True):
                        before = ((old, True, goes), shut)
                        self.check(before, deed, True, ((new, True, goes), shut))
                        before = ((old, False, goes), shut)
                        self.check(before, deed, False, before)

    def test_define_without_the_field(self):
        for field in all_fields(range(10)):
            deed = ("define", "a", *field)
            self.check((None, False), deed, True, (field, False))
            self.check((None, True), deed, False, (None, True))

    def test_define_with_the_field(self):
        # For the flags (changes, goes) of the old field, those of the new fields
        # that may replace it: with the same value, and with another one.
        table = {
            (False, False): ([(False, False)], []),
            (False, True): (FLAG_PAIRS, FLAG_PAIRS),
            (True, False): ([(False, False), (True, False)], [(False, False), (True, False)]),
            (True, True): (FLAG_PAIRS, FLAG_PAIRS),
        }
        for old in all_fields(range(10)):
            same, different = table[old[1:]]
            for new in all_fields(range(10)):
                done = new[1:] in (same if old[0] == new[0] else different)
                for shut in (False, True):
                    deed = ("define", "a", *new)
                    self.check((old, shut), deed, done, (new if done else old, shut))

    def test_take(self):
        for shut in (False, True):
            self.check((None, shut), ("take", "a"), True, (None, shut))
            for value in range(10):
                for changes in (False, True):
                    stays = ((value, changes, False), shut)
                    self.check(stays, ("take", "a"), False, stays)
                    goes = ((value, changes, True), shut)
                    self.check(goes, ("take", "a"), True, (None, shut))

    def test_shut_and_isshut(self):
        for field in [None, *all_fields(range(10))]:
            self.check((field, False), ("shut",), True, (field, True))
            self.check((field, True), ("shut",), True, (field, True))
            self.check((field, False), ("isshut",), False, (field, False))
            self.check((field, True), ("isshut",), True, (field, True))

    def test_each_name_is_like_a(self):
        for name in "bcdefgh":
            for standing in all_standings((0, 1, 9)):
                for here, there in zip(all_deeds("a", (0, 1, 9)), all_deeds(name, (0, 1, 9))):
                    self.assertEqual(repr(act(standing, here)), repr(act(standing, there)))

    def test_true_and_false_are_not_integers(self):
        kinds = {
            "look": (type(None), tuple),
            "has": (bool,),
            "get": (type(None), int),
            "set": (bool,),
            "define": (bool,),
            "take": (bool,),
            "shut": (bool,),
            "isshut": (bool,),
        }
        for standing in all_standings((0, 1, 9)):
            for deed in all_deeds("a", (0, 1, 9)):
                answer, (field, shut) = act(standing, deed)
                self.assertIn(type(answer), kinds[deed[0]], (standing, deed))
                self.assertIs(type(shut), bool)
                for read in (answer, field):
                    if type(read) is tuple:
                        self.assertEqual([type(item) for item in read], [int, bool, bool])

    def test_the_pair_is_a_tuple_of_an_answer_and_a_standing(self):
        for standing in all_standings((0, 1)):
            for deed in all_deeds("c", (0, 1)):
                pair = act(standing, deed)
                self.assertIs(type(pair), tuple)
                self.assertIs(type(pair[1]), tuple)
                self.assertEqual([len(pair), len(pair[1])], [2, 2])


class PassTest(unittest.TestCase):
    def search(self, values):
        deeds = all_deeds("a", values)
        for before in all_standings(values):
            found = distances(before, deeds)
            for after in all_standings(values):
                yield before, after, found.get(after)

    def test_can_pass_agrees_with_a_search_over_the_18_standings(self):
        self.assertEqual(all_standings((0, 1)), standings())
        for before, after, least in self.search((0, 1)):
            self.assertIs(can_pass(before, after), least is not None, (before, after))

    def test_way_agrees_with_a_search_over_the_18_standings(self):
        for before, after, least in self.search((0, 1)):
            self.check_way(before, after, least)

    def test_both_agree_with_a_search_over_all_values(self):
        for before, after, least in self.search(range(10)):
            self.assertIs(can_pass(before, after), least is not None, (before, after))
            self.check_way(before, after, least)

    def check_way(self, before, after, least):
        deeds = list(way(before, after))
        self.assertEqual(len(deeds), least or 0, (before, after))
        if least is None:
            return
        standing = before
        for deed in deeds:
            answer, standing = act(standing, deed)
            self.assertIs(answer, True)
        self.assertEqual(repr(standing), repr(after))
        kinds = [deed[0] for deed in deeds]
        self.assertIn(kinds, [[], ["take"], ["define"], ["shut"], ["take", "shut"], ["define", "shut"]])
        self.assertEqual(list(way(before, after)), deeds)

    def test_some_ways_in_full(self):
        cases = [
            ((None, False), (None, False), []),
            ((None, False), (None, True), [("shut",)]),
            ((None, False), ((7, False, True), False), [("define", "a", 7, False, True)]),
            ((None, False), ((0, True, True), True), [("define", "a", 0, True, True), ("shut",)]),
            (((3, False, True), False), (None, True), [("take", "a"), ("shut",)]),
            (((3, False, True), True), (None, True), [("take", "a")]),
            (((3, True, False), True), ((4, False, False), True), [("define", "a", 4, False, False)]),
            (((3, True, True), False), ((4, True, True), False), [("define", "a", 4, True, True)]),
            (((3, True, False), False), ((3, True, False), True), [("shut",)]),
            ((None, True), ((0, True, True), True), []),
            (((3, False, False), False), ((4, False, False), False), []),
            (((3, True, False), False), (None, True), []),
            ((None, True), (None, False), []),
        ]
        for before, after, deeds in cases:
            self.assertEqual(repr(list(way(before, after))), repr(deeds), (before, after))

    def test_way_is_a_generator(self):
        self.assertTrue(inspect.isgeneratorfunction(way))

    def test_two_ways_side_by_side_do_not_affect_each_other(self):
        before, after = (None, False), ((0, True, True), True)
        first, second = way(before, after), way(before, after)
        self.assertEqual(next(first), next(second))
        self.assertEqual(list(first), [("shut",)])
        self.assertEqual(list(second), [("shut",)])

    def test_some_pairs(self):
        fixed = ((5, False, False), False)
        self.assertIs(can_pass(fixed, fixed), True)
        self.assertIs(can_pass(fixed, ((5, False, False), True)), True)
        self.assertIs(can_pass(fixed, ((6, False, False), False)), False)
        self.assertIs(can_pass(fixed, (None, False)), False)
        self.assertIs(can_pass((None, False), (fixed[0], True)), True)
        self.assertIs(can_pass((None, True), (fixed[0], True)), False)
        self.assertIs(can_pass((None, True), (None, False)), False)
        self.assertIs(can_pass(((5, False, True), True), ((6, True, True), True)), True)
        self.assertIs(can_pass(((5, True, False), True), ((6, True, True), True)), False)


class TrueTest(unittest.TestCase):
    def given(self, before, deed):
        if deed == ("names",):
            return (() if before[0] is None else ("a",), before)
        return act(before, deed)

    def test_all_events_at_all_standings(self):
        for deed, answer in events():
            for standing in standings():
                expected = any(
                    repr(self.given(before, deed)) == repr((answer, standing))
                    for before in standings()
                )
                self.assertIs(is_true((deed, answer), standing), expected, (deed, answer, standing))

    def test_where_some_events_are_true(self):
        def places(event):
            return [standing for standing in standings() if is_true(event, standing)]

        def both(field):
            return [(field, False), (field, True)]

        there = [standing for standing in standings() if standing[0] is not None]
        changing = both((0, True, False)) + both((0, True, True))
        fixed = [standing for standing in there if not standing[0][1]]
        staying = [standing for standing in there if not standing[0][2]]
        cases = [
            (("look", "a"), None, both(None)),
            (("look", "a"), (1, False, True), both((1, False, True))),
            (("has", "a"), True, there),
            (("get", "a"), 0, [standing for standing in there if standing[0][0] == 0]),
            (("set", "a", 0), True, changing),
            (("set", "a", 0), False, [(None, True), *fixed]),
            (("define", "a", 1, False, False), True, both((1, False, False))),
            (("define", "a", 1, False, False), False, [(None, True), *both((0, False, False))]),
            (("define", "a", 1, True, True), False, [(None, True), *staying]),
            (("take", "a"), True, both(None)),
            (("take", "a"), False, staying),
            (("names",), (), both(None)),
            (("names",), ("a",), there),
            (("shut",), False, []),
            (("shut",), True, [standing for standing in standings() if standing[1]]),
            (("isshut",), False, [standing for standing in standings() if not standing[1]]),
        ]
        for deed, answer, expected in cases:
            self.assertEqual(places((deed, answer)), expected, (deed, answer))


if __name__ == "__main__":
    unittest.main()
