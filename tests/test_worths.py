import inspect
import unittest

from outlast.worths import is_moment, is_name, is_worth, kept

GREATEST = 10 ** 9
LAST_MOMENT = 10 ** 12
OWN_WORDS = ("order timer child send drop wait hear if else done while end none arg now answer not").split()


class Answers(unittest.TestCase):
    def yes(self, asked, things):
        for thing in things:
            with self.subTest(thing=thing):
                self.assertIs(asked(thing), True)

    def no(self, asked, things):
        for thing in things:
            with self.subTest(thing=thing):
                self.assertIs(asked(thing), False)


class EqualToAll:
    def __eq__(self, other):
        return True


class Interface(unittest.TestCase):
    def test_arguments(self):
        for asked in (is_worth, is_moment, is_name):
            self.assertEqual(list(inspect.signature(asked).parameters), ["thing"])
        self.assertEqual(list(inspect.signature(kept).parameters), ["number"])


class IsWorth(Answers):
    def test_worths(self):
        self.yes(is_worth, [None, 0, 1, -1, 7, -300, GREATEST - 1, GREATEST, -GREATEST + 1, -GREATEST])

    def test_beyond(self):
        self.no(is_worth, [GREATEST + 1, -GREATEST - 1, LAST_MOMENT, 10 ** 100, -10 ** 100])

    def test_truths_are_none(self):
        self.no(is_worth, [True, False])

    def test_what_is_equal_to_all_is_none(self):
        for asked in (is_worth, is_moment, is_name):
            self.no(asked, [EqualToAll()])

    def test_other_things(self):
        self.no(is_worth, ["", "0", "1", "none", "None", "a", (), (0,), (None,), [], [0], {}, {0: 0}, set(),
                           0.0, 1.0, float("nan"), float("inf"), 1j, b"0", object(), int, len, Exception()])


class IsMoment(Answers):
    def test_moments(self):
        self.yes(is_moment, [0, 1, 1440, GREATEST, GREATEST + 1, LAST_MOMENT - 1, LAST_MOMENT])

    def test_beyond(self):
        self.no(is_moment, [-1, -2, -GREATEST, -LAST_MOMENT, LAST_MOMENT + 1, 10 ** 100, -10 ** 100])

    def test_none_and_truths_are_none(self):
        self.no(is_moment, [None, True, False])

    def test_other_things(self):
        self.no(is_moment, ["", "0", "now", (), (0,), [], [0], {}, set(), 0.0, 1.0, float("nan"), 1j, b"0",
                            object(), int, len])


class IsName(Answers):
    def test_names(self):
        self.yes(is_name, ["a", "z", "m", "az", "name", "worth", "abcdef", "uvwxyz", "aaaaaa", "zzzzzz"])

    def test_each_small_letter(self):
        for letter in "abcdefghijklmnopqrstuvwxyz":
            self.yes(is_name, [letter, letter * 6, "aa" + letter])

    def test_how_long(self):
        self.no(is_name, ["", "abcdefg", "aaaaaaa", "a" * 12, "a" * 1000])

    def test_own_words_are_none(self):
        self.assertEqual(len(set(OWN_WORDS)), 17)
        self.no(is_name, OWN_WORDS)

    def test_words_near_to_the_own_words(self):
        for word in OWN_WORDS:
            near = [word[:-1], word[1:], word + "s", "a" + word, word[::-1], word + word]
            self.yes(is_name, [text for text in near if 1 <= len(text) <= 6 and text not in OWN_WORDS])
            self.no(is_name, [word.upper(), word.capitalize(), word + " ", " " + word, word + "\n"])

    def test_other_words_of_the_document(self):
        self.yes(is_name, ["orders", "timers", "sends", "drops", "waits", "hears", "iff", "ends", "nones", "args",
                           "nows", "knot", "set", "begin", "letter", "number", "name", "start", "tick", "new",
                           "worn", "true", "false", "and", "or", "i", "nothi"])

    def test_great_letters(self):
        self.no(is_name, ["A", "Z", "aB", "Ab", "NAME", "abcdeF"])

    def test_figures_and_other_signs(self):
        self.no(is_name, ["0", "9", "a1", "1a", "a_b", "_", "-", "a-b", "a.b", "+", "=", "<", "(", "~", "`", "{",
                          "@", "["])

    def test_blanks_and_line_feeds(self):
        self.no(is_name, [" ", "a b", " a", "a ", "\n", "a\n", "\na", "a\nb", "abcde\n", "\t", "a\t", "\r", "a\r",
                          "\0", "a\0"])

    def test_letters_beyond_a_to_z(self):
        self.no(is_name, ["\u00e9", "\u00df", "a\u00e4", "\u0430", "\uff41", "\u017f", "\u00b5", "\u00aa"])

    def test_other_things(self):
        self.no(is_name, [None, True, False, 0, 1, -1, 10 ** 9, 1.5, b"a", (), ("a",), ("a", "b"), [], ["a"], {},
                          {"a": 1}, set(), {"a"}, object(), str, len])


class Kept(unittest.TestCase):
    def test_within_it_stays(self):
        for number in (0, 1, -1, 2, -2, 12345, -12345, GREATEST - 1, -GREATEST + 1, GREATEST, -GREATEST):
            self.assertEqual(kept(number), number)

    def test_above(self):
        for number in (GREATEST + 1, GREATEST + 2, 2 * GREATEST, GREATEST ** 2, 10 ** 12, 10 ** 300):
            self.assertEqual(kept(number), GREATEST)

    def test_below(self):
        for number in (-GREATEST - 1, -GREATEST - 2, -2 * GREATEST, -GREATEST ** 2, -10 ** 12, -10 ** 300):
            self.assertEqual(kept(number), -GREATEST)

    def test_it_is_a_worth_and_no_truth(self):
        for number in (0, 1, -1, GREATEST, -GREATEST, 10 ** 40, -10 ** 40):
            self.assertIs(type(kept(number)), int)
            self.assertIs(is_worth(kept(number)), True)


class NothingIsChanged(unittest.TestCase):
    def test_what_is_asked_of_stays_as_it_was(self):
        for asked in (is_worth, is_moment, is_name):
            letters = ["a", ["b"]]
            table = {"a": [1]}
            asked(letters)
            asked(table)
            self.assertEqual(letters, ["a", ["b"]])
            self.assertEqual(table, {"a": [1]})


if __name__ == "__main__":
    unittest.main()
