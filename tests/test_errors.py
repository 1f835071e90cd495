import unittest

from outlast.errors import (NoCommand, NoLine, NoLog, NoPolicy, NoProgram, NoRule, NoRun, NoState,
                            OutlastError)

REFUSALS = (NoProgram, NoLog, NoState, NoRule, NoPolicy, NoLine, NoRun, NoCommand)


def made(refusal):
    return refusal(0) if refusal is NoLog else refusal("words")


class WhichStandsUnderWhich(unittest.TestCase):
    def test_outlast_error_stands_straight_under_value_error(self):
        self.assertEqual(OutlastError.__bases__, (ValueError,))

    def test_each_refusal_stands_under_outlast_error(self):
        for refusal in REFUSALS:
            with self.subTest(refusal=refusal.__name__):
                self.assertTrue(issubclass(refusal, OutlastError))
                self.assertTrue(issubclass(refusal, ValueError))
                self.assertIsNot(refusal, OutlastError)

    def test_none_stands_under_another_one(self):
        for one in REFUSALS:
            for other in REFUSALS:
                if one is not other:
                    with self.subTest(one=one.__name__, other=other.__name__):
                        self.assertFalse(issubclass(one, other))

    def test_the_eight_are_eight(self):
        self.assertEqual(len(set(REFUSALS)), 8)
        self.assertEqual([refusal.__name__ for refusal in REFUSALS],
                         ["NoProgram", "NoLog", "NoState", "NoRule", "NoPolicy", "NoLine", "NoRun", "NoCommand"])

    def test_outlast_error_stands_under_none_of_them(self):
        for refusal in REFUSALS:
            self.assertFalse(issubclass(OutlastError, refusal))

    def test_they_are_not_of_other_kinds_of_errors(self):
        for refusal in REFUSALS:
            self.assertFalse(issubclass(refusal, (TypeError, LookupError, ArithmeticError, RuntimeError)))


class Raised(unittest.TestCase):
    def test_each_is_taken_by_its_name_as_outlast_error_and_as_value_error(self):
        for refusal in REFUSALS:
            for taken in (refusal, OutlastError, ValueError):
                with self.subTest(refusal=refusal.__name__, taken=taken.__name__):
                    with self.assertRaises(taken):
                        raise made(refusal)

    def test_none_is_taken_for_another_one(self):
        for refusal in REFUSALS:
            others = tuple(other for other in REFUSALS if other is not refusal)
            self.assertNotIsInstance(made(refusal), others)

    def test_an_outlast_error_itself_is_none_of_them(self):
        self.assertNotIsInstance(OutlastError("words"), REFUSALS)

    def test_those_with_free_words_may_have_none(self):
        for refusal in REFUSALS:
            if refusal is not NoLog:
                self.assertIsInstance(refusal(), refusal)


class TheFieldLine(unittest.TestCase):
    def test_it_is_the_number_of_which_it_is_made(self):
        for line in (0, 1, 299, 10 ** 12):
            self.assertEqual(NoLog(line).line, line)

    def test_it_is_there_when_the_error_is_taken(self):
        with self.assertRaises(OutlastError) as taken:
            raise NoLog(7)
        self.assertEqual(taken.exception.line, 7)

    def test_each_has_its_own(self):
        one = NoLog(1)
        other = NoLog(2)
        self.assertEqual((one.line, other.line), (1, 2))

    def test_it_is_made_of_a_line_alone(self):
        self.assertEqual(NoLog(line=3).line, 3)
        with self.assertRaises(TypeError):
            NoLog()


if __name__ == "__main__":
    unittest.main()
