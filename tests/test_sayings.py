import copy
import inspect
import unittest

from outlast.sayings import worth_of
from outlast.worths import is_worth

GREATEST = 10 ** 9
EDGES = (None, -GREATEST, -GREATEST + 1, -31623, -31622, -2, -1, 0, 1, 2, 3, 31622, 31623, GREATEST - 1, GREATEST)
SIGNS = ("+", "-", "*", "<", "=")
NONE = ("none",)
ARG = ("arg",)
NOW = ("now",)


def number(n):
    return ("number", n)


def name(word):
    return ("name", word)


def said(worth):
    return NONE if worth is None else number(worth)


def told(saying, names=None, arg=None, now=0, answers=None):
    return worth_of(saying, names or {}, arg, now, answers or {})


def expected(sign, one, other):
    if sign == "=":
        return int((one is None) == (other is None) and one == other)
    left = one or 0
    right = other or 0
    if sign == "<":
        return int(left < right)
    exact = {"+": left + right, "-": left - right, "*": left * right}[sign]
    if exact > GREATEST:
        return GREATEST
    if exact < -GREATEST:
        return -GREATEST
    return exact


class Told(unittest.TestCase):
    def tells(self, saying, worth, **around):
        found = told(saying, **around)
        self.assertEqual(found, worth, saying)
        # True == 1, but a truth is no worth.
        self.assertIs(type(found), type(worth), saying)


class Interface(unittest.TestCase):
    def test_arguments(self):
        self.assertEqual(list(inspect.signature(worth_of).parameters), ["saying", "names", "arg", "now", "answers"])
        self.assertEqual(worth_of(saying=ARG, names={}, arg=4, now=0, answers={}), 4)


class PlainForms(Told):
    def test_number(self):
        for n in (0, 1, -1, 12, GREATEST, -GREATEST):
            self.tells(number(n), n)

    def test_none(self):
        self.tells(NONE, None, names={"none": 1}, arg=2, now=3, answers={0: 4})

    def test_name(self):
        names = {"a": 1, "b": -2, "c": None, "zzzzzz": GREATEST, "zero": 0}
        self.tells(name("a"), 1, names=names)
        self.tells(name("b"), -2, names=names)
        self.tells(name("c"), None, names=names)
        self.tells(name("zzzzzz"), GREATEST, names=names)
        self.tells(name("zero"), 0, names=names)

    def test_a_name_that_has_nothing(self):
        self.tells(name("d"), None, names={"a": 1}, arg=5, now=6, answers={0: 7})
        self.tells(name("a"), None)

    def test_names_called_like_forms(self):
        names = {"number": 1, "name": 2}
        self.tells(name("number"), 1, names=names)
        self.tells(name("name"), 2, names=names)

    def test_arg(self):
        for arg in (None, 0, 1, -1, GREATEST, -GREATEST):
            self.tells(ARG, arg, arg=arg, now=77)

    def test_now(self):
        for now in (0, 1, 1440, GREATEST - 1, GREATEST):
            self.tells(NOW, now, arg=77, now=now)

    def test_now_beyond_the_worths(self):
        for now in (GREATEST + 1, 2 * GREATEST, 10 ** 12 - 1, 10 ** 12):
            self.tells(NOW, GREATEST, now=now)

    def test_now_beyond_the_worths_within_a_greater_saying(self):
        self.tells(("-", NOW, number(1)), GREATEST - 1, now=10 ** 12)
        self.tells(("=", NOW, number(GREATEST)), 1, now=GREATEST + 1)
        self.tells(("<", number(GREATEST), NOW), 0, now=GREATEST + 1)
        self.tells(("not", NOW), 0, now=10 ** 12)


class Answer(Told):
    answers = {0: 10, 1: None, 2: 0, 3: -GREATEST, 40: GREATEST}

    def test_of_a_done_ticket(self):
        self.tells(("answer", number(0)), 10, answers=self.answers)
        self.tells(("answer", number(2)), 0, answers=self.answers)
        self.tells(("answer", number(3)), -GREATEST, answers=self.answers)
        self.tells(("answer", number(40)), GREATEST, answers=self.answers)

    def test_of_one_done_by_none(self):
        self.tells(("answer", number(1)), None, answers=self.answers)

    def test_of_a_ticket_that_there_is_not(self):
        for n in (4, -1, 41, GREATEST, -GREATEST):
            self.tells(("answer", number(n)), None, answers=self.answers)
        self.tells(("answer", number(0)), None)

    def test_of_none(self):
        self.tells(("answer", NONE), None, answers=self.answers)
        self.tells(("answer", name("a")), None, answers=self.answers)

    def test_of_a_greater_saying(self):
        self.tells(("answer", ("+", name("t"), number(1))), -GREATEST, names={"t": 2}, answers=self.answers)
        self.tells(("answer", ("answer", number(2))), 10, answers=self.answers)
        self.tells(("answer", ARG), 10, arg=0, answers=self.answers)
        self.tells(("answer", NOW), GREATEST, now=40, answers=self.answers)
        self.tells(("answer", ("not", number(5))), 10, answers=self.answers)

    def test_it_is_the_worth_not_another_kind_of_number(self):
        self.tells(("answer", ("=", number(1), number(1))), 8, answers={1: 8})


class Not(Told):
    def test_of_none_and_nought(self):
        self.tells(("not", NONE), 1)
        self.tells(("not", number(0)), 1)
        self.tells(("not", name("a")), 1)
        self.tells(("not", ("answer", number(9))), 1)

    def test_of_others(self):
        for n in (1, -1, 2, GREATEST, -GREATEST):
            self.tells(("not", number(n)), 0)

    def test_twice(self):
        self.tells(("not", ("not", number(17))), 1)
        self.tells(("not", ("not", NONE)), 0)


class Signs(Told):
    def test_plain_ones(self):
        self.tells(("+", number(2), number(3)), 5)
        self.tells(("-", number(2), number(3)), -1)
        self.tells(("*", number(2), number(-3)), -6)
        self.tells(("<", number(2), number(3)), 1)
        self.tells(("<", number(3), number(2)), 0)
        self.tells(("<", number(3), number(3)), 0)
        self.tells(("=", number(3), number(3)), 1)
        self.tells(("=", number(3), number(2)), 0)

    def test_none_is_nought_in_sums(self):
        self.tells(("+", NONE, number(3)), 3)
        self.tells(("+", number(3), NONE), 3)
        self.tells(("+", NONE, NONE), 0)

    def test_none_is_nought_in_differences(self):
        self.tells(("-", NONE, number(3)), -3)
        self.tells(("-", number(3), NONE), 3)
        self.tells(("-", NONE, NONE), 0)

    def test_none_is_nought_in_products(self):
        self.tells(("*", NONE, number(3)), 0)
        self.tells(("*", number(3), NONE), 0)
        self.tells(("*", NONE, NONE), 0)

    def test_none_is_nought_in_less(self):
        self.tells(("<", NONE, number(1)), 1)
        self.tells(("<", number(-1), NONE), 1)
        self.tells(("<", NONE, number(0)), 0)
        self.tells(("<", number(0), NONE), 0)
        self.tells(("<", NONE, number(-1)), 0)
        self.tells(("<", NONE, NONE), 0)

    def test_none_is_one_worth_with_none_alone(self):
        self.tells(("=", NONE, NONE), 1)
        self.tells(("=", NONE, name("a")), 1)
        self.tells(("=", NONE, number(0)), 0)
        self.tells(("=", number(0), NONE), 0)

    def test_every_pair_of_edges(self):
        for sign in SIGNS:
            for one in EDGES:
                for other in EDGES:
                    self.tells((sign, said(one), said(other)), expected(sign, one, other))
                    self.tells((sign, ARG, name("b")), expected(sign, one, other), arg=one, names={"b": other})


class KeptWithinTheWorths(Told):
    def test_sums(self):
        self.tells(("+", number(GREATEST), number(1)), GREATEST)
        self.tells(("+", number(-GREATEST), number(-1)), -GREATEST)
        self.tells(("+", number(GREATEST - 1), number(1)), GREATEST)

    def test_differences(self):
        self.tells(("-", number(GREATEST), number(-1)), GREATEST)
        self.tells(("-", number(-GREATEST), number(1)), -GREATEST)
        self.tells(("-", NONE, number(GREATEST)), -GREATEST)

    def test_products(self):
        self.tells(("*", number(GREATEST), number(GREATEST)), GREATEST)
        self.tells(("*", number(GREATEST), number(-2)), -GREATEST)
        self.tells(("*", number(-GREATEST), number(-GREATEST)), GREATEST)
        self.tells(("*", number(31623), number(31623)), GREATEST)
        self.tells(("*", number(31622), number(31622)), 999950884)

    def test_within_a_greater_saying(self):
        over = ("+", number(GREATEST), number(5))
        under = ("-", number(-GREATEST), number(5))
        great = ("*", number(GREATEST), number(GREATEST))
        self.tells(("-", over, number(5)), GREATEST - 5)
        self.tells(("+", under, number(5)), -GREATEST + 5)
        self.tells(("-", great, number(1)), GREATEST - 1)
        self.tells(("+", over, under), 0)
        self.tells(("=", over, great), 1)
        self.tells(("<", over, great), 0)
        self.tells(("answer", over), 3, answers={GREATEST: 3, GREATEST + 5: 4})

    def test_what_is_told_is_a_worth(self):
        for sign in SIGNS:
            for one in EDGES:
                self.assertTrue(is_worth(told((sign, said(one), ("*", NOW, said(one))), now=10 ** 12)))


class Depth(Told):
    def test_six_deep(self):
        saying = name("a")
        for sign in ("+", "-", "*", "<", "="):
            saying = (sign, saying, number(2))
        # ((((4 + 2) - 2) * 2) < 2) = 2
        self.tells(saying, 0, names={"a": 4})
        right = name("a")
        for sign in ("+", "-", "*", "+", "-"):
            right = (sign, number(2), right)
        # 2 - (2 + (2 * (2 - (2 + 4))))
        self.tells(right, 8, names={"a": 4})

    def test_six_deep_on_both_sides(self):
        saying = ARG
        for _ in range(5):
            saying = ("+", saying, saying)
        self.tells(saying, 96, arg=3)
        self.tells(saying, GREATEST, arg=GREATEST)

    def test_six_deep_of_not_and_answer(self):
        saying = number(0)
        for _ in range(5):
            saying = ("not", saying)
        self.tells(saying, 1)
        saying = number(0)
        for _ in range(5):
            saying = ("answer", saying)
        self.tells(saying, 5, answers={k: k + 1 for k in range(6)})

    def test_somewhat_deeper(self):
        saying = number(1)
        for _ in range(20):
            saying = ("+", number(1), saying)
        self.tells(saying, 21)


class NothingIsChangedOrKept(Told):
    saying = ("+", ("answer", name("t")), ("*", name("none"), ("-", name("gone"), ("answer", number(8)))))

    def test_the_dicts_stay_as_they_were(self):
        names = {"t": 0, "b": None, "a": 3}
        answers = {5: 1, 0: 2, 1: None}
        names_before = copy.deepcopy(names)
        answers_before = copy.deepcopy(answers)
        for saying in (self.saying, name("gone"), ("answer", number(7)), ("answer", NONE), ("not", name("b"))):
            worth_of(saying, names, 1, 2, answers)
        self.assertEqual(list(names.items()), list(names_before.items()))
        self.assertEqual(list(answers.items()), list(answers_before.items()))

    def test_what_became_of_the_dicts_since_counts(self):
        names = {"a": 1}
        answers = {1: 10}
        saying = ("+", name("a"), ("answer", name("a")))
        self.assertEqual(worth_of(saying, names, None, 0, answers), 11)
        names["a"] = 2
        answers[2] = 20
        self.assertEqual(worth_of(saying, names, None, 0, answers), 22)
        names.clear()
        self.assertEqual(worth_of(saying, names, None, 0, answers), 0)

    def test_asked_again_it_tells_the_same(self):
        for _ in range(3):
            self.tells(self.saying, 4, names={"t": 6}, answers={6: 4})


if __name__ == "__main__":
    unittest.main()
