import inspect
import unittest

from outlast.programs import show_program

ONE = ("number", 1)
TWO = ("number", 2)


def number(n):
    return ("number", n)


def name(word):
    return ("name", word)


class Shown(unittest.TestCase):
    def shows(self, program, text):
        self.assertEqual(show_program(program), text)


class Interface(unittest.TestCase):
    def test_arguments(self):
        self.assertEqual(list(inspect.signature(show_program).parameters), ["program"])
        self.assertIs(type(show_program(())), str)


class Statements(Shown):
    def test_no_statements(self):
        self.shows((), "")

    def test_set(self):
        self.shows((("set", "a", ONE),), "a = 1\n")

    def test_order(self):
        self.shows((("order", "t", "bake", ("arg",)),), "t = order bake arg\n")

    def test_timer(self):
        self.shows((("timer", "t", number(1440)),), "t = timer 1440\n")

    def test_child(self):
        self.shows((("child", "c", "helper", ("now",)),), "c = child helper now\n")

    def test_send(self):
        self.shows((("send", ONE, "key", ("none",)),), "send 1 key none\n")

    def test_drop(self):
        self.shows((("drop", name("t")),), "drop t\n")

    def test_wait(self):
        self.shows((("wait", "w", (name("t"),)),), "w = wait t\n")
        self.shows((("wait", "w", (name("t"), ONE, ("none",), ("+", name("t"), ONE))),),
                   "w = wait t 1 none ( t + 1 )\n")

    def test_hear(self):
        self.shows((("hear", "h", "key"),), "h = hear key\n")

    def test_end(self):
        self.shows((("end", ("none",)),), "end none\n")

    def test_while(self):
        self.shows((("while", name("a"), (("set", "a", ONE),)),), "while a\na = 1\ndone\n")

    def test_if_without_second_block(self):
        self.shows((("if", name("a"), (("set", "a", ONE),), ()),), "if a\na = 1\ndone\n")

    def test_if_with_both_blocks(self):
        self.shows((("if", name("a"), (("set", "a", ONE),), (("set", "b", TWO),)),),
                   "if a\na = 1\nelse\nb = 2\ndone\n")

    def test_blocks_of_none(self):
        self.shows((("while", ONE, ()),), "while 1\ndone\n")
        self.shows((("if", ONE, (), ()),), "if 1\ndone\n")
        self.shows((("if", ONE, (), (("end", TWO),)),), "if 1\nelse\nend 2\ndone\n")

    def test_several_stand_in_their_order(self):
        self.shows((("set", "a", ONE), ("set", "b", TWO), ("end", name("a"))), "a = 1\nb = 2\nend a\n")

    def test_blocks_within_one_another(self):
        inner = ("if", name("b"), (("while", name("c"), ()),), (("if", ONE, (), ()),))
        self.shows((("while", name("a"), (inner, ("drop", ONE))), ("end", TWO)),
                   "while a\nif b\nwhile c\ndone\nelse\nif 1\ndone\ndone\ndrop 1\ndone\nend 2\n")


class Sayings(Shown):
    def said(self, saying, words):
        self.shows((("set", "a", saying),), "a = " + words + "\n")
        self.shows((("if", saying, (), ()),), "if " + words + "\ndone\n")

    def test_numbers(self):
        for n, words in ((0, "0"), (7, "7"), (-7, "-7"), (10, "10"), (10 ** 9, "1000000000"),
                         (-10 ** 9, "-1000000000")):
            self.said(number(n), words)

    def test_words(self):
        self.said(("none",), "none")
        self.said(("arg",), "arg")
        self.said(("now",), "now")
        self.said(name("abcdef"), "abcdef")
        self.said(name("number"), "number")
        self.said(name("name"), "name")

    def test_answer_and_not(self):
        self.said(("answer", name("t")), "answer t")
        self.said(("not", ("arg",)), "not arg")
        self.said(("not", ("answer", ("not", number(-1)))), "not answer not -1")

    def test_signs(self):
        for sign in "+-*<=":
            self.said((sign, name("a"), number(-2)), "( a " + sign + " -2 )")

    def test_signs_within_one_another(self):
        self.said(("-", ("-", ONE, TWO), ("*", name("a"), ("not", ("<", ONE, TWO)))),
                  "( ( 1 - 2 ) - ( a * not ( 1 < 2 ) ) )")
        self.said(("not", ("=", ("none",), ("none",))), "not ( none = none )")


class BeyondTheBounds(Shown):
    def test_nothing_is_refused(self):
        self.shows((("set", "a", ONE),) * 61, "a = 1\n" * 61)
        program = ()
        for _ in range(7):
            program = (("while", ONE, program),)
        self.shows(program, "while 1\n" * 7 + "done\n" * 7)
        saying = ONE
        for _ in range(8):
            saying = ("not", saying)
        self.shows((("end", saying),), "end " + "not " * 8 + "1\n")


if __name__ == "__main__":
    unittest.main()
