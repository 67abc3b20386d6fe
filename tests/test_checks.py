import itertools
import unittest

from lyingstandins.checks import event_words, format_check, parse_check, shown_words
from lyingstandins.errors import BadAnswer, BadCheck, Lie, Promise, Refused, StandInError, Unfair

NAMES = "abcdefgh"
ORDER = "done not gone there changes firm goes stays other shut open".split()
FLAGS = {
    (False, False): ("firm", "stays"),
    (False, True): ("firm", "goes"),
    (True, False): ("changes", "stays"),
    (True, True): ("changes", "goes"),
}
FIELD = "gone there changes firm goes stays".split()
# For each kind: the words of a claim and the words behind.
ALLOWED = {
    "look": (FIELD, [*FIELD, "other", "shut", "open"]),
    "has": (["gone", "there"], [*FIELD, "shut", "open"]),
    "get": (["gone", "there"], [*FIELD, "other", "shut", "open"]),
    "set": (["done", "not"], [*FIELD, "other", "shut", "open"]),
    "define": (["done", "not", *FIELD[2:]], [*FIELD, "other", "shut", "open"]),
    "take": (["done", "not"], [*FIELD, "shut", "open"]),
    "names": (["gone", "there"], [*FIELD, "shut", "open"]),
    "shut": (["done", "not"], ["shut", "open"]),
    "isshut": (["shut", "open"], ["shut", "open"]),
}


class EventWordsTest(unittest.TestCase):
    def check(self, deed, answer, name, *words):
        self.assertEqual(event_words((deed, answer), name), words, (deed, answer))

    def test_look(self):
        for name in NAMES:
            self.check(("look", name), None, name, "gone")
            for value in range(10):
                for flags, words in FLAGS.items():
                    self.check(("look", name), (value, *flags), name, "there", *words)

    def test_has(self):
        for name in NAMES:
            self.check(("has", name), False, name, "gone")
            self.check(("has", name), True, name, "there")

    def test_get(self):
        for name in NAMES:
            self.check(("get", name), None, name, "gone")
            for value in range(10):
                self.check(("get", name), value, name, "there")

    def test_set(self):
        for name in NAMES:
            for value in range(10):
                self.check(("set", name, value), True, name, "done")
                self.check(("set", name, value), False, name, "not")

    def test_define(self):
        for name in NAMES:
            for value in range(10):
                for flags, words in FLAGS.items():
                    deed = ("define", name, value, *flags)
                    self.check(deed, True, name, "done", *words)
                    self.check(deed, False, name, "not", *words)

    def test_take(self):
        for name in NAMES:
            self.check(("take", name), True, name, "done")
            self.check(("take", name), False, name, "not")

    def test_names_depend_on_the_name(self):
        answers = [(), ("a",), ("h", "b"), tuple(NAMES), tuple(reversed(NAMES))]
        for answer in answers:
            for name in NAMES:
                self.check(("names",), answer, name, "there" if name in answer else "gone")

    def test_shut_and_isshut(self):
        for name in NAMES:
            self.check(("shut",), True, name, "done")
            self.check(("shut",), False, name, "not")
            self.check(("isshut",), True, name, "shut")
            self.check(("isshut",), False, name, "open")


class ShownWordsTest(unittest.TestCase):
    def events(self, name):
        """Events of all kinds with a value, or None, that the shown field can differ from."""
        rows = [
            (("look", name), None, None),
            (("has", name), False, None),
            (("has", name), True, None),
            (("get", name), None, None),
            (("take", name), False, None),
            (("take", name), True, None),
            (("names",), (), None),
            (("names",), (name,), None),
            (("shut",), False, None),
            (("shut",), True, None),
            (("isshut",), False, None),
            (("isshut",), True, None),
        ]
        for value in range(10):
            rows.append((("get", name), value, value))
            for done in (False, True):
                rows.append((("set", name, value), done, value))
            for flags in FLAGS:
                rows.append((("look", name), (value, *flags), value))
                for done in (False, True):
                    rows.append((("define", name, value, *flags), done, value))
        return rows

    def test_without_a_field(self):
        for name in NAMES:
            for deed, answer, _ in self.events(name):
                event = (deed, answer)
                self.assertEqual(shown_words(event, (None, False), name), ("gone", "open"))
                self.assertEqual(shown_words(event, (None, True), name), ("gone", "shut"))

    def test_with_a_field(self):
        for name in NAMES:
            for deed, answer, value in self.events(name):
                for shown in (0, 1, 9):
                    for flags, words in FLAGS.items():
                        self.check_field((deed, answer), value, (shown, *flags), words, name)

    def check_field(self, event, value, field, flag_words, name):
        # `other` stands exactly where the event has a value and the shown one differs.
        other = () if value in (None, field[0]) else ("other",)
        for shut, word in ((False, "open"), (True, "shut")):
            words = shown_words(event, (field, shut), name)
            self.assertEqual(words, ("there", *flag_words, *other, word), (event, field))

    def test_some_in_full(self):
        look = (("look", "a"), (0, True, True))
        self.assertEqual(shown_words(look, ((1, False, False), True), "a"), ("there", "firm", "stays", "other", "shut"))
        refused = (("set", "b", 4), False)
        self.assertEqual(shown_words(refused, ((4, True, False), False), "b"), ("there", "changes", "stays", "open"))
        self.assertEqual(
            shown_words(refused, ((0, True, False), False), "b"), ("there", "changes", "stays", "other", "open")
        )

    def test_words_come_in_order(self):
        for deed, answer, _ in self.events("a"):
            for shown in ((None, True), ((0, False, True), False), ((9, True, False), True)):
                for words in (event_words((deed, answer), "a"), shown_words((deed, answer), shown, "a")):
                    self.assertIs(type(words), tuple)
                    self.assertEqual(list(words), [word for word in ORDER if word in words])


class WrittenTest(unittest.TestCase):
    def bad(self, line):
        with self.assertRaises(BadCheck, msg=repr(line)) as caught:
            parse_check(line)
        self.assertEqual(caught.exception.line, line)

    def test_the_examples_of_the_document(self):
        for line, check in [
            ("look gone if there shut", ("look", ("gone",), ("there", "shut"))),
            ("isshut if", ("isshut", (), ())),
        ]:
            self.assertEqual(parse_check(line), check)
            self.assertEqual(format_check(check), line)

    def test_every_word_that_a_kind_allows_and_none_other(self):
        for kind, (claim, behind) in ALLOWED.items():
            for word in ORDER:
                line = f"{kind} {word} if"
                if word in claim:
                    self.assertEqual(parse_check(line), (kind, (word,), ()))
                else:
                    self.bad(line)
                line = f"{kind} if {word}"
                if word in behind:
                    self.assertEqual(parse_check(line), (kind, (), (word,)))
                else:
                    self.bad(line)

    def test_all_words_of_a_kind_together(self):
        for kind, (claim, behind) in ALLOWED.items():
            check = (kind, tuple(claim), tuple(behind))
            line = " ".join([kind, *claim, "if", *behind])
            self.assertEqual(format_check(check), line)
            self.assertEqual(parse_check(line), check)
            turned = " ".join([kind, *reversed(claim), "if", *reversed(behind)])
            self.assertEqual(parse_check(turned), check)
            self.assertEqual(format_check(parse_check(turned)), line)

    def test_words_of_a_side_in_any_order(self):
        check = ("look", ("there", "firm", "stays"), ("there", "other", "open"))
        for claim in itertools.permutations(check[1]):
            for behind in itertools.permutations(check[2]):
                self.assertEqual(parse_check(" ".join(["look", *claim, "if", *behind])), check)

    def test_two_words_of_one_pair(self):
        self.assertEqual(parse_check("look there gone if open shut"), ("look", ("gone", "there"), ("shut", "open")))
        self.assertEqual(parse_check("set not done if goes stays"), ("set", ("done", "not"), ("goes", "stays")))
        self.assertEqual(parse_check("isshut open shut if"), ("isshut", ("shut", "open"), ()))
        self.assertEqual(parse_check("has if firm changes"), ("has", (), ("changes", "firm")))

    def test_empty_sides(self):
        for kind in ALLOWED:
            self.assertEqual(parse_check(kind + " if"), (kind, (), ()))
            self.assertEqual(format_check((kind, (), ())), kind + " if")
            self.assertEqual(parse_check(kind + " if shut"), (kind, (), ("shut",)))
            self.assertEqual(format_check((kind, (), ("shut",))), kind + " if shut")

    def test_one_word_may_stand_on_both_sides(self):
        self.assertEqual(parse_check("look gone if gone"), ("look", ("gone",), ("gone",)))
        self.assertEqual(parse_check("isshut open if open"), ("isshut", ("open",), ("open",)))

    def test_checks_are_tuples(self):
        kind, claim, behind = check = parse_check("define not firm if there goes")
        self.assertEqual([type(part) for part in (check, kind, claim, behind)], [tuple, str, tuple, tuple])

    def test_a_word_twice_on_a_side(self):
        for line in ("look gone gone if", "look gone there gone if", "look if shut shut", "set done if open other open"):
            self.bad(line)

    def test_a_missing_or_second_if(self):
        for line in ("look", "look gone", "look gone shut", "look if if", "look if gone if", "look if shut if open"):
            self.bad(line)
        self.bad("isshut if if shut")

    def test_a_missing_or_wrong_kind(self):
        for line in ("if", "if shut", "gone if shut", "peek if", "if if", "done if", "other if", "look2 if", "a if"):
            self.bad(line)

    def test_two_kinds(self):
        for line in ("look look if", "look get if", "look shut if", "isshut isshut if", "look if look"):
            self.bad(line)

    def test_an_empty_word(self):
        for line in ("", " ", "  ", " look if", "look if ", "look  if", "look gone  if", "look if  gone", " if", "if "):
            self.bad(line)
        for line in ("look gone if there  shut", "look gone if there shut ", " look gone if there shut", "look if  "):
            self.bad(line)

    def test_other_white_space(self):
        for line in ("look\tif", "look if\n", "look if\tgone", "look\ngone if", "\nlook if", "look if\r", "look\x0bif"):
            self.bad(line)
        self.bad("look gone if\nthere")
        self.bad("look\u00a0if")

    def test_a_capital_letter(self):
        for line in ("Look if", "look IF", "look Gone if", "look gone if Shut", "LOOK IF"):
            self.bad(line)

    def test_unknown_words(self):
        for line in ("look goner if", "look gon if", "look if 0", "look, if", "look gone, there if", "look if a"):
            self.bad(line)

    def test_a_line_of_200_characters_and_more(self):
        self.bad("x" * 200)
        self.bad("look if " + "gone " * 40)
        self.bad("look if" + " " * 193)

    def test_bad_check_and_the_other_errors(self):
        try:
            parse_check("look")
        except BadCheck as error:
            caught = error
        self.assertIsInstance(caught, StandInError)
        self.assertIsInstance(caught, ValueError)
        for other in (Refused, BadAnswer, Promise, Lie, Unfair):
            self.assertNotIsInstance(caught, other)


if __name__ == "__main__":
    unittest.main()
