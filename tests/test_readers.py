import inspect
import itertools
import unittest

from outlast.errors import NoLog, NoProgram
from outlast.programs import show_program
from outlast.readers import read_program

ONE = ("number", 1)
TWO = ("number", 2)
OWN_WORDS = ("order timer child send drop wait hear if else done while end none arg now answer not").split()

WHOLE_TEXT = """a = 1
t = order bake ( arg + -3 )
u = timer 1440
c = child helper now
send c key not t
w = wait t u answer c ( w = none )
if ( w = t )
drop u
else
h = hear key
while ( h < 10 )
h = ( h * 2 )
done
done
end answer t
"""

WHOLE_PROGRAM = (
    ("set", "a", ONE),
    ("order", "t", "bake", ("+", ("arg",), ("number", -3))),
    ("timer", "u", ("number", 1440)),
    ("child", "c", "helper", ("now",)),
    ("send", ("name", "c"), "key", ("not", ("name", "t"))),
    ("wait", "w", (("name", "t"), ("name", "u"), ("answer", ("name", "c")), ("=", ("name", "w"), ("none",)))),
    ("if", ("=", ("name", "w"), ("name", "t")),
     (("drop", ("name", "u")),),
     (("hear", "h", "key"),
      ("while", ("<", ("name", "h"), ("number", 10)),
       (("set", "h", ("*", ("name", "h"), TWO)),)))),
    ("end", ("answer", ("name", "t"))),
)


def kinds_of(thing):
    # True == 1 and a list may hold what a tuple holds: so the kinds are compared, too.
    return (type(thing), [kinds_of(part) for part in thing] if isinstance(thing, (list, tuple)) else thing)


class Reading(unittest.TestCase):
    def reads(self, text, program):
        found = read_program(text)
        self.assertEqual(found, program)
        self.assertEqual(kinds_of(found), kinds_of(program))
        self.assertEqual(show_program(program), text)

    def refuses(self, text):
        with self.subTest(text=text[:200]):
            with self.assertRaises(NoProgram):
                read_program(text)

    def takes(self, text):
        with self.subTest(text=text[:200]):
            self.assertEqual(show_program(read_program(text)), text)


class Interface(unittest.TestCase):
    def test_arguments(self):
        self.assertEqual(list(inspect.signature(read_program).parameters), ["text"])

    def test_the_refusal_is_no_other_one(self):
        with self.assertRaises(NoProgram) as taken:
            read_program("a")
        self.assertNotIsInstance(taken.exception, NoLog)


class ReadBack(Reading):
    def test_no_statements(self):
        self.reads("", ())

    def test_all_together(self):
        self.reads(WHOLE_TEXT, WHOLE_PROGRAM)

    def test_each_kind_of_statement(self):
        self.reads("a = arg\n", (("set", "a", ("arg",)),))
        self.reads("a = order b 1\n", (("order", "a", "b", ONE),))
        self.reads("a = timer 1\n", (("timer", "a", ONE),))
        self.reads("a = child b 1\n", (("child", "a", "b", ONE),))
        self.reads("send 1 b 2\n", (("send", ONE, "b", TWO),))
        self.reads("drop 1\n", (("drop", ONE),))
        self.reads("a = wait 1\n", (("wait", "a", (ONE,)),))
        self.reads("a = hear b\n", (("hear", "a", "b"),))
        self.reads("if 1\ndone\n", (("if", ONE, (), ()),))
        self.reads("while 1\ndone\n", (("while", ONE, ()),))
        self.reads("end 1\n", (("end", ONE),))

    def test_blocks(self):
        self.reads("if 1\ndrop 1\ndone\n", (("if", ONE, (("drop", ONE),), ()),))
        self.reads("if 1\ndrop 1\nelse\ndrop 2\ndone\n", (("if", ONE, (("drop", ONE),), (("drop", TWO),)),))
        self.reads("if 1\nelse\ndrop 2\ndone\n", (("if", ONE, (), (("drop", TWO),)),))
        self.reads("while 1\ndrop 1\ndrop 2\ndone\n", (("while", ONE, (("drop", ONE), ("drop", TWO))),))

    def test_what_stands_behind_a_block_is_not_in_it(self):
        self.reads("if 1\ndone\ndrop 1\n", (("if", ONE, (), ()), ("drop", ONE)))
        self.reads("while 1\nif 1\ndone\ndrop 1\ndone\ndrop 2\n",
                   (("while", ONE, (("if", ONE, (), ()), ("drop", ONE))), ("drop", TWO)))

    def test_else_belongs_to_the_if_that_is_not_done(self):
        inner = ("if", TWO, (), ())
        self.reads("if 1\nif 2\ndone\nelse\ndrop 1\ndone\n", (("if", ONE, (inner,), (("drop", ONE),)),))
        inner = ("if", TWO, (), (("drop", ONE),))
        self.reads("if 1\nif 2\nelse\ndrop 1\ndone\ndone\n", (("if", ONE, (inner,), ()),))
        self.reads("if 1\nelse\nif 2\ndone\ndone\n", (("if", ONE, (), (("if", TWO, (), ()),)),))
        self.reads("if 1\nwhile 2\ndone\nelse\nwhile 1\ndone\ndone\n",
                   (("if", ONE, (("while", TWO, ()),), (("while", ONE, ()),)),))

    def test_each_form_of_a_saying(self):
        forms = (("0", ("number", 0)), ("1", ONE), ("-1", ("number", -1)), ("1000000000", ("number", 10 ** 9)),
                 ("-1000000000", ("number", -10 ** 9)), ("907", ("number", 907)), ("none", ("none",)),
                 ("x", ("name", "x")), ("arg", ("arg",)), ("now", ("now",)), ("answer x", ("answer", ("name", "x"))),
                 ("not x", ("not", ("name", "x"))), ("( 1 + 2 )", ("+", ONE, TWO)), ("( 1 - 2 )", ("-", ONE, TWO)),
                 ("( 1 * 2 )", ("*", ONE, TWO)), ("( 1 < 2 )", ("<", ONE, TWO)), ("( 1 = 2 )", ("=", ONE, TWO)),
                 ("( 1 - -1 )", ("-", ONE, ("number", -1))), ("number", ("name", "number")))
        for words, saying in forms:
            self.reads("a = " + words + "\n", (("set", "a", saying),))
            self.reads("a = order b " + words + "\n", (("order", "a", "b", saying),))
            self.reads("a = timer " + words + "\n", (("timer", "a", saying),))
            self.reads("a = child b " + words + "\n", (("child", "a", "b", saying),))
            self.reads("send " + words + " b " + words + "\n", (("send", saying, "b", saying),))
            self.reads("drop " + words + "\n", (("drop", saying),))
            self.reads("end " + words + "\n", (("end", saying),))
            self.reads("if " + words + "\ndone\n", (("if", saying, (), ()),))
            self.reads("while " + words + "\ndone\n", (("while", saying, ()),))
            for many in (1, 2, 3, 4):
                self.reads("a = wait" + (" " + words) * many + "\n", (("wait", "a", (saying,) * many),))

    def test_not_and_answer_reach_over_one_saying(self):
        self.reads("a = wait not 1 answer 2\n", (("wait", "a", (("not", ONE), ("answer", TWO))),))
        self.reads("a = ( not 1 + 2 )\n", (("set", "a", ("+", ("not", ONE), TWO)),))
        self.reads("a = not ( 1 + 2 )\n", (("set", "a", ("not", ("+", ONE, TWO))),))

    def test_names_near_to_own_words(self):
        self.reads("orders = order sends ends\n", (("order", "orders", "sends", ("name", "ends")),))
        self.reads("set = begin\n", (("set", "set", ("name", "begin")),))

    def test_asked_again_it_tells_the_same(self):
        self.assertEqual(read_program(WHOLE_TEXT), read_program(WHOLE_TEXT))


class LinesRefused(Reading):
    def test_no_last_line_feed(self):
        self.refuses("a = 1")
        self.refuses("a = 1\nb = 2")
        self.refuses(WHOLE_TEXT[:-1])
        self.refuses("if 1\ndone")

    def test_empty_lines(self):
        for text in ("\n", "\n\n", "a = 1\n\n", "\na = 1\n", "a = 1\n\nb = 2\n", "if 1\n\ndone\n", " \n"):
            self.refuses(text)

    def test_every_beginning(self):
        for cut in range(len(WHOLE_TEXT) + 1):
            text = WHOLE_TEXT[:cut]
            if text == "" or (text.endswith("\n") and is_balanced(text.splitlines())):
                self.takes(text)
            else:
                self.refuses(text)

    def check(self, lines):
        text = "".join(line + "\n" for line in lines)
        if is_balanced(lines):
            self.takes(text)
        else:
            self.refuses(text)

    def test_a_line_left_out_told_twice_or_exchanged(self):
        lines = "if a\nb = 1\nelse\nwhile c\nd = 2\ndone\nif e\ndone\ndone\nend f\n".splitlines()
        self.assertTrue(is_balanced(lines))
        for k in range(len(lines)):
            self.check(lines[:k] + lines[k + 1:])
            self.check(lines[:k] + [lines[k]] + lines[k:])
            for other in range(k):
                changed = list(lines)
                changed[k], changed[other] = changed[other], changed[k]
                self.check(changed)

    def test_some_left_out_or_exchanged_that_are_surely_none(self):
        for text in ("b = 1\nelse\nc = 2\ndone\n", "if a\nb = 1\nelse\nc = 2\n", "if a\nb = 1\nelse\ndone\n",
                     "if a\nif a\nb = 1\nelse\nc = 2\ndone\n", "if a\nb = 1\nelse\nelse\nc = 2\ndone\n",
                     "if a\nb = 1\nelse\nc = 2\ndone\ndone\n", "else\nb = 1\nif a\nc = 2\ndone\n",
                     "done\nb = 1\nelse\nc = 2\nif a\n", "if a\nb = 1\ndone\nc = 2\nelse\n"):
            self.refuses(text)

    def test_else_and_done_out_of_place(self):
        for text in ("else\n", "done\n", "else\na = 1\ndone\n", "a = 1\ndone\n", "a = 1\nelse\n", "if 1\n",
                     "while 1\n", "if 1\nelse\n", "if 1\nelse\na = 1\n", "if 1\na = 1\n", "while 1\na = 1\n",
                     "if 1\ndone\ndone\n", "while 1\ndone\ndone\n", "while 1\nelse\ndone\n",
                     "while 1\nelse\na = 1\ndone\n", "while 1\na = 1\nelse\na = 1\ndone\n",
                     "if 1\nelse\na = 1\nelse\nb = 1\ndone\n", "if 1\na = 1\nelse\nb = 1\nelse\ndone\n",
                     "if 1\ndone\nelse\na = 1\ndone\n", "if 1\nwhile 2\nelse\na = 1\ndone\ndone\n",
                     "if 1\nwhile 2\ndone\n", "while 1\nif 2\ndone\n", "if 1\nif 2\nelse\na = 1\ndone\n"):
            self.refuses(text)

    def test_else_without_lines(self):
        self.refuses("if 1\nelse\ndone\n")
        self.refuses("if 1\na = 1\nelse\ndone\n")
        self.refuses("if 1\nif 2\nelse\ndone\nelse\na = 1\ndone\n")
        self.refuses("if 1\nif 2\nelse\na = 1\ndone\nelse\ndone\n")

    def test_words_beside_else_and_done(self):
        for text in ("if 1\na = 1\nelse 1\nb = 1\ndone\n", "if 1\ndone 1\n", "while 1\ndone while\n",
                     "if 1\n done\n", "if 1\ndone \n", "if 1\nelse \na = 1\ndone\n", "if 1\nelse if 2\ndone\n",
                     "if 1\nelse done\n", "if 1 done\n", "if 1\nDone\n", "if 1\nelse\na = 1\nend\n"):
            self.refuses(text)


def is_balanced(lines):
    stack = []
    for k, line in enumerate(lines):
        first = line.split()[0]
        if first in ("if", "while"):
            stack.append(first)
        elif line == "else":
            if not stack or stack[-1] != "if" or k + 1 == len(lines) or lines[k + 1] == "done":
                return False
            stack[-1] = "else"
        elif line == "done":
            if not stack:
                return False
            stack.pop()
    return not stack


LINES = ("a = 1", "a = ( b + -1 )", "a = not answer b", "a = order b 1", "a = timer ( now * 2 )", "a = child b arg",
         "send 1 b 2", "send ( a < b ) c none", "drop a", "a = wait b", "a = wait b ( c + 1 ) d not e",
         "a = hear b", "end none", "end ( 1 = ( 2 - 3 ) )")
OTHER_WORDS = ("=", "(", ")", "+", "1", "-", "order", "wait", "none", "not", "answer", "if", "else", "done", "x", "")


class WordsRefused(Reading):
    # Which changed lines are still statements is told by a grammar of its own, below.
    def check(self, words):
        text = " ".join(words) + "\n"
        if is_line(words):
            self.takes(text)
        else:
            self.refuses(text)

    def test_the_lines_themselves(self):
        for line in LINES:
            self.assertTrue(is_line(line.split(" ")), line)
            self.takes(line + "\n")

    def test_a_word_left_out(self):
        for line in LINES:
            words = line.split(" ")
            for k in range(len(words)):
                self.check(words[:k] + words[k + 1:])

    def test_a_word_put_in(self):
        for line in LINES:
            words = line.split(" ")
            for k in range(len(words) + 1):
                for word in OTHER_WORDS:
                    self.check(words[:k] + [word] + words[k:])

    def test_a_word_in_the_place_of_another(self):
        for line in LINES:
            words = line.split(" ")
            for k in range(len(words)):
                for word in OTHER_WORDS:
                    self.check(words[:k] + [word] + words[k + 1:])

    def test_words_exchanged(self):
        for line in LINES:
            words = line.split(" ")
            for one, other in itertools.combinations(range(len(words)), 2):
                changed = list(words)
                changed[one], changed[other] = changed[other], changed[one]
                self.check(changed)

    def test_some_that_are_surely_none(self):
        for line in ("a", "a =", "= 1", "a 1", "1 = a", "a = 1 2", "a = b c", "a == 1", "a = order", "a = order b",
                     "a = order 1", "a = order b 1 2", "a = order 1 b", "order b 1", "a = timer", "a = timer 1 2",
                     "timer 1", "a = child b", "a = child", "child b 1", "send", "send 1", "send 1 b", "send 1 2",
                     "send 1 2 3", "send 1 b 2 3", "a = send 1 b 2", "drop", "drop 1 2", "a = drop 1", "wait 1",
                     "a = hear", "a = hear 1", "a = hear b c", "hear b", "end", "end 1 2", "a = end 1", "if",
                     "while", "a = if 1", "a = answer", "a = not", "a = not not", "a = answer = 1", "set a 1",
                     "a = ( 1 )", "a = ( )", "a = ( 1 + )", "a = ( + 1 )", "a = ( 1 + 2", "a = 1 + 2",
                     "a = 1 + 2 )", "a = ( 1 + 2 ) )", "a = ( ( 1 + 2 )", "a = ( 1 + 2 + 3 )", "a = ( 1 / 2 )",
                     "a = ( 1 > 2 )", "a = ( 1 == 2 )", "a = ( 1 not 2 )", "a = ( 1 2 + )", "a = (1 + 2)",
                     "a = ( 1 +2 )", "a = ( 1+2 )", "a=1", "a =1", "a= 1", "a = - 1", "a = ( 1 + 2 ) 3",
                     "a = order b ( 1", "send ( 1 + 2 b 3", "a = ((1 + 2))", "a = [ 1 + 2 ]"):
            self.refuses(line + "\n")

    def test_ifs_and_whiles(self):
        for head in ("if", "while"):
            for words in ("", " ", " 1 2", " 1 1", " ( 1", " 1 )", " = 1", " a = 1", " else", " done", " wait 1"):
                self.refuses(head + words + "\ndone\n")
        self.refuses("else 1\ndone\n")
        self.refuses("a = while 1\ndone\n")


def is_line(words):
    words = list(words) + [None]
    first = words[0]
    if first == "send":
        k = behind_saying(words, 1)
        return k is not None and is_plain_name(words[k]) and behind_saying(words, k + 1) == len(words) - 1
    if first in ("drop", "end"):
        return behind_saying(words, 1) == len(words) - 1
    if not is_plain_name(first) or words[1] != "=":
        return False
    kind = words[2]
    if kind == "wait":
        k, many = 3, 0
        while k is not None and words[k] is not None:
            k = behind_saying(words, k)
            many += 1
        return k is not None and 1 <= many <= 4
    if kind == "hear":
        return is_plain_name(words[3]) and len(words) == 5
    at = 2
    if kind in ("order", "child"):
        if not is_plain_name(words[3]):
            return False
        at = 4
    elif kind == "timer":
        at = 3
    return behind_saying(words, at) == len(words) - 1


def behind_saying(words, k):
    # The number of the word behind the saying that begins at k, or None.
    word = words[k]
    if word in ("none", "arg", "now") or is_plain_name(word):
        return k + 1
    if word in ("answer", "not"):
        return behind_saying(words, k + 1)
    if word == "(":
        k = behind_saying(words, k + 1)
        if k is None or words[k] not in ("+", "-", "*", "<", "="):
            return None
        k = behind_saying(words, k + 1)
        return k + 1 if k is not None and words[k] == ")" else None
    return k + 1 if word in ("1", "-1", "2", "3") else None


def is_plain_name(word):
    return word is not None and word.isalpha() and word not in OWN_WORDS


class BlanksRefused(Reading):
    def test_blanks(self):
        for line in LINES:
            self.refuses(" " + line + "\n")
            self.refuses(line + " \n")
            self.refuses(line.replace(" ", "  ") + "\n")
            self.refuses(line.replace(" ", "\t") + "\n")
            self.refuses("  " + line + "\n")
            for k in range(len(line)):
                if line[k] == " ":
                    self.refuses(line[:k] + " " + line[k:] + "\n")
                    self.refuses(line[:k] + "\n" + line[k + 1:] + "\n")

    def test_within_blocks(self):
        self.refuses("if 1\n a = 1\ndone\n")
        self.refuses("if  1\ndone\n")
        self.refuses("if 1 \ndone\n")
        self.refuses("while 1\n  a = 1\ndone\n")


class NumbersRefused(Reading):
    def test_numbers_that_are_none(self):
        for word in ("00", "01", "-0", "-00", "-01", "+1", "+0", "--1", "-", "+", "1-", "1.0", "1.", ".5", "1e3",
                     "1_000", "0x1", "1,000", "1000000001", "-1000000001", "9999999999", "10000000000",
                     "9" * 11, "9" * 5000, "-" + "9" * 5000, "0" * 11, "1a", "a1", "\u0661", "\u00b2", "\uff11",
                     "1\u0661", "1\r", "1\x0b", "1\x00"):
            for line in ("a = " + word, "a = order b " + word, "a = timer " + word, "a = child b " + word,
                         "send " + word + " b 1", "send 1 b " + word, "drop " + word, "a = wait " + word,
                         "a = wait 1 " + word, "end " + word, "a = not " + word, "a = answer " + word,
                         "a = ( 1 + " + word + " )", "a = ( " + word + " + 1 )", "if " + word, "while " + word):
                self.refuses(line + "\n" + ("done\n" if line[:2] in ("if", "wh") else ""))

    def test_numbers_at_the_edges(self):
        for word in ("0", "1", "-1", "9", "10", "-10", "999999999", "1000000000", "-1000000000", "100000000"):
            self.takes("a = " + word + "\n")


class NamesRefused(Reading):
    PLACES = ("{} = 1", "{} = order b 1", "a = order {} 1", "{} = timer 1", "{} = child b 1", "a = child {} 1",
              "send 1 {} 2", "{} = wait 1", "{} = hear b", "a = hear {}")

    def test_own_words(self):
        for word in OWN_WORDS:
            for place in self.PLACES:
                self.refuses(place.format(word) + "\n")

    def test_own_words_as_sayings(self):
        for word in set(OWN_WORDS) - {"none", "arg", "now"}:
            for line in ("drop {}", "end {}", "a = not {}", "a = ( {} + 1 )", "a = wait {}"):
                self.refuses(line.format(word) + "\n")

    def test_names_that_are_none(self):
        for word in ("", "abcdefg", "aaaaaaaaaaaa", "A", "Ab", "aB", "ABCDEF", "a1", "1", "0", "-1", "a_b", "_", "a-b",
                     "a.b", "\u00e9", "\u00df", "\u0430", "a\r", "a\t", "(", ")", "=", "+", "a\x00"):
            for place in self.PLACES:
                self.refuses(place.format(word) + "\n")

    def test_names_as_sayings_that_are_none(self):
        for word in ("abcdefg", "A", "aB", "a1", "a_b", "\u00e9", "a.b", "", "-a", "a\r"):
            for line in ("a = {}", "drop {}", "end {}", "a = not {}", "a = ( {} + 1 )", "a = wait {}"):
                self.refuses(line.format(word) + "\n")

    def test_names_at_the_edges(self):
        for word in ("a", "z", "abcdef", "zzzzzz", "ends", "els"):
            for place in self.PLACES:
                self.takes(place.format(word) + "\n")
            self.takes("a = " + word + "\n")


def nested(head, many):
    return (head + "\n") * many + "done\n" * many


class Bounds(Reading):
    def test_sixty_statements(self):
        self.takes("a = 1\n" * 60)
        self.refuses("a = 1\n" * 61)
        self.refuses("a = 1\n" * 1000)

    def test_statements_in_blocks_are_counted_and_ifs_and_whiles_too(self):
        self.takes("while 1\n" + "a = 1\n" * 59 + "done\n")
        self.refuses("while 1\n" + "a = 1\n" * 60 + "done\n")
        self.takes("if 1\n" + "a = 1\n" * 29 + "else\n" + "a = 1\n" * 30 + "done\n")
        self.refuses("if 1\n" + "a = 1\n" * 30 + "else\n" + "a = 1\n" * 30 + "done\n")
        self.takes("if 1\ndone\n" * 60)
        self.refuses("if 1\ndone\n" * 61)
        self.takes("while 1\ndone\n" * 59 + "a = 1\n")
        self.refuses("while 1\ndone\n" * 60 + "a = 1\n")

    def test_else_and_done_are_not_counted(self):
        self.takes("if 1\nelse\na = 1\ndone\n" * 30)
        self.refuses("if 1\nelse\na = 1\ndone\n" * 30 + "a = 1\n")

    def test_blocks_five_deep(self):
        for head in ("if 1", "while 1"):
            self.takes(nested(head, 5))
            self.refuses(nested(head, 6))
            self.refuses(nested(head, 60))
            self.takes((head + "\n") * 5 + "a = 1\n" + "done\n" * 5)
            self.refuses((head + "\n") * 6 + "a = 1\n" + "done\n" * 6)

    def test_blocks_of_an_else_are_as_deep(self):
        self.takes("if 1\nelse\n" * 5 + "a = 1\n" + "done\n" * 5)
        self.refuses("if 1\nelse\n" * 6 + "a = 1\n" + "done\n" * 6)
        self.takes("if 1\nwhile 1\nif 1\nelse\nwhile 1\nif 1\nelse\na = 1\n" + "done\n" * 5)
        self.refuses("if 1\nwhile 1\nif 1\nelse\nwhile 1\nif 1\nelse\nwhile 1\n" + "done\n" * 6)

    def test_blocks_beside_one_another_are_not_deeper(self):
        self.takes(nested("while 1", 5) * 12)
        self.takes("while 1\n" + nested("if 1", 4) * 3 + "done\n")
        self.refuses("while 1\n" + nested("if 1", 4) + nested("if 1", 5) + "done\n")

    def test_sayings_six_deep(self):
        for head in ("not ", "answer "):
            self.takes("a = " + head * 5 + "1\n")
            self.refuses("a = " + head * 6 + "1\n")
            self.refuses("a = " + head * 5000 + "1\n")
        self.takes("a = " + "( " * 5 + "1" + " + 1 )" * 5 + "\n")
        self.refuses("a = " + "( " * 6 + "1" + " + 1 )" * 6 + "\n")
        self.refuses("a = " + "( " * 5000 + "1" + " + 1 )" * 5000 + "\n")
        self.takes("a = " + "( 1 + " * 5 + "1" + " )" * 5 + "\n")
        self.refuses("a = " + "( 1 + " * 6 + "1" + " )" * 6 + "\n")

    def test_sayings_six_deep_of_all_forms(self):
        self.takes("a = not ( answer ( 1 < not none ) = arg )\n")
        self.refuses("a = not ( answer ( 1 < not not none ) = arg )\n")
        self.refuses("a = not ( arg = answer ( not not now < 1 ) )\n")

    def test_a_full_saying_of_six(self):
        full = "1"
        for _ in range(5):
            full = "( " + full + " + " + full + " )"
        self.takes("a = " + full + "\n")
        self.refuses("a = not " + full + "\n")

    def test_depth_of_sayings_in_each_place(self):
        good, bad = "not " * 5 + "1", "not " * 6 + "1"
        for line in ("a = order b {}", "a = timer {}", "a = child b {}", "send {} b 1", "send 1 b {}", "drop {}",
                     "a = wait {}", "a = wait 1 1 1 {}", "end {}", "if {}\ndone", "while {}\ndone",
                     "if 1\nelse\nend {}\ndone"):
            self.takes(line.format(good) + "\n")
            self.refuses(line.format(bad) + "\n")

    def test_sayings_beside_one_another_and_in_blocks_are_not_deeper(self):
        deep = "not " * 5 + "1"
        self.takes("a = wait " + " ".join([deep] * 4) + "\n")
        self.takes("send " + deep + " b " + deep + "\n")
        self.takes(("while " + deep + "\n") * 5 + "a = " + deep + "\n" + "done\n" * 5)

    def test_how_many_a_wait_has(self):
        self.refuses("a = wait\n")
        self.refuses("a = wait \n")
        for many in (1, 2, 3, 4):
            self.takes("a = wait" + " b" * many + "\n")
        for many in (5, 6, 1000):
            self.refuses("a = wait" + " b" * many + "\n")
        self.takes("a = wait ( 1 + 2 ) ( 1 + 2 ) not 1 answer 1\n")
        self.refuses("a = wait ( 1 + 2 ) ( 1 + 2 ) not 1 answer 1 2\n")


class AnyOtherText(Reading):
    def test_signs(self):
        for code in itertools.chain(range(0x300), (0x2028, 0x2029, 0x3000, 0xfeff, 0xd800, 0x1f600)):
            sign = chr(code)
            self.refuses(sign)
            self.refuses(sign + "\n")
            if sign not in " \n":
                self.refuses("a =" + sign + "1\n")
            if not "a" <= sign <= "z":
                self.refuses("a" + sign + " = 1\n")
                self.refuses("a = b" + sign + "\n" if sign != "\n" else "a = b\n\n")
            self.refuses("a = 1\n" + sign)

    def test_other_ends_of_lines(self):
        for feed in ("\r", "\r\n", "\n\r", "\x0b", "\x0c", "\x1c", "\x85", "\u2028"):
            self.refuses("a = 1" + feed + "b = 2" + feed)
            self.refuses("a = 1" + feed)
            self.refuses("if 1" + feed + "done\n")

    def test_plain_words(self):
        for text in ("hello", "hello\n", "hello world\n", "# a\n", "a = 1 # b\n", "None", "None\n", "()", "()\n",
                     "-\n", "begin 0 1\n", "a = 1; b = 2\n", "x" * 100000, "x" * 100000 + "\n", "\n" * 100000,
                     " " * 100000, "if 1\n" * 100000, "done\n" * 100000, "( " * 100000 + "\n",
                     "a = " + "( " * 100000 + "\n"):
            self.refuses(text)

    def test_every_sign_of_a_text_left_out(self):
        for k in range(len(WHOLE_TEXT)):
            text = WHOLE_TEXT[:k] + WHOLE_TEXT[k + 1:]
            # Whatever is taken for a program is written as it was read.
            try:
                program = read_program(text)
            except NoProgram:
                continue
            self.assertEqual(show_program(program), text)

    def test_every_sign_of_a_text_exchanged(self):
        for sign in " \n0-a(~":
            for k in range(len(WHOLE_TEXT)):
                text = WHOLE_TEXT[:k] + sign + WHOLE_TEXT[k + 1:]
                try:
                    program = read_program(text)
                except NoProgram:
                    continue
                self.assertEqual(show_program(program), text)


if __name__ == "__main__":
    unittest.main()
