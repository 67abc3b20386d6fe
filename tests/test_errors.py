import unittest

from lyingstandins.errors import BadAnswer, BadCheck, Lie, Promise, Refused, StandInError, Unfair

DEED = ("look", "a")
ANSWER = (0, False, True)
CHECK = ("look", ("gone",), ("there", "shut"))
EVENT = (DEED, ANSWER)

CASES = [
    (BadCheck, {"line": "look  if"}),
    (Refused, {"deed": ("set", "a", 1)}),
    (BadAnswer, {"deed": DEED, "answer": (1, 2)}),
    (Promise, {"check": CHECK}),
    (Lie, {"deed": DEED, "answer": ANSWER, "check": CHECK}),
    (Unfair, {"event": EVENT}),
]


class ErrorsTest(unittest.TestCase):
    def test_above_all_is_a_value_error(self):
        self.assertEqual(StandInError.__bases__, (ValueError,))

    def test_each_stands_directly_under_stand_in_error(self):
        for error, _ in CASES:
            with self.subTest(error=error.__name__):
                self.assertEqual(error.__bases__, (StandInError,))

    def test_arguments_by_position_are_attributes(self):
        for error, arguments in CASES:
            with self.subTest(error=error.__name__):
                made = error(*arguments.values())
                self.assertEqual({key: getattr(made, key) for key in arguments}, arguments)

    def test_arguments_by_keyword_are_attributes(self):
        for error, arguments in CASES:
            with self.subTest(error=error.__name__):
                made = error(**arguments)
                self.assertEqual({key: getattr(made, key) for key in arguments}, arguments)

    def test_another_number_of_arguments_is_a_type_error(self):
        for error, arguments in CASES:
            with self.subTest(error=error.__name__):
                with self.assertRaises(TypeError):
                    error(*list(arguments.values())[1:])
                with self.assertRaises(TypeError):
                    error(*arguments.values(), None)

    def test_attributes_keep_false_and_none(self):
        made = Lie(("has", "a"), False, None)
        self.assertIs(made.answer, False)
        self.assertIs(made.check, None)

    def test_each_can_be_raised_and_caught_as_both_bases(self):
        for error, arguments in CASES:
            for base in (StandInError, ValueError):
                with self.subTest(error=error.__name__, base=base.__name__):
                    with self.assertRaises(base):
                        raise error(*arguments.values())

    def test_none_is_caught_as_another(self):
        for error, _ in CASES:
            for other, _ in CASES:
                self.assertEqual(issubclass(error, other), error is other)


if __name__ == "__main__":
    unittest.main()
