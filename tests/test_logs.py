import copy
import inspect
import unittest

from outlast.errors import NoLog, NoProgram
from outlast.logs import read_log, run_again, show_log
from outlast.readers import read_program
from outlast.runs import Run

GREATEST = 10 ** 9
LAST_MOMENT = 10 ** 12
OWN_WORDS = ("order timer child send drop wait hear if else done while end none arg now answer not").split()

TEXT = """while 1
a = order w arg
t = timer 10
b = wait a t
if ( b = t )
drop a
send 0 late now
else
c = hear k
send answer a key c
if ( c = 0 )
end now
done
done
done
"""

ROW = [("letter", 1, "k", 9), ("begin", 2, 5), ("begin", 3, 6), ("done", 4, 7, 1), ("letter", 9, "k", 8),
       ("letter", 8, "l", None), ("done", 12, 1, None), ("done", 13, 0, 1), ("done", 14, 2, 77),
       ("done", 14, 4, 3), ("letter", 14, "k", None), ("done", 10, 3, 5), ("done", 20, 5, None), ("letter", 21, "k", 0),
       ("done", 22, 6, None), ("letter", 23, "k", 1), ("begin", 24, 1)]


class Interface(unittest.TestCase):
    def test_arguments(self):
        self.assertEqual(list(inspect.signature(show_log).parameters), ["happenings"])
        self.assertEqual(list(inspect.signature(read_log).parameters), ["text"])
        self.assertEqual(list(inspect.signature(run_again).parameters), ["program", "happenings"])

    def test_kinds(self):
        self.assertIs(type(show_log([])), str)
        self.assertIs(type(read_log("")), list)
        self.assertIs(type(run_again((), [])), tuple)


class WrittenAndRead(unittest.TestCase):
    def both(self, happenings, text):
        self.assertEqual(show_log(happenings), text)
        found = read_log(text)
        self.assertEqual(found, happenings)
        self.assertEqual([[type(part) for part in one] for one in found],
                         [[type(part) for part in one] for one in happenings])
        self.assertTrue(all(type(one) is tuple for one in found))

    def test_none(self):
        self.both([], "")

    def test_each_line(self):
        self.both([("begin", 0, 5)], "begin 0 5\n")
        self.both([("done", 7, 3, 5)], "done 7 3 5\n")
        self.both([("letter", 7, "key", 5)], "letter 7 key 5\n")

    def test_none_is_a_stroke(self):
        self.both([("begin", 1, None)], "begin 1 -\n")
        self.both([("done", 1, 0, None)], "done 1 0 -\n")
        self.both([("letter", 1, "k", None)], "letter 1 k -\n")

    def test_edges_of_worths(self):
        for worth in (0, 1, -1, 10, -10, GREATEST, -GREATEST, GREATEST - 1, 999, -1000):
            word = str(worth)
            self.both([("begin", 1, worth)], "begin 1 " + word + "\n")
            self.both([("done", 1, 0, worth)], "done 1 0 " + word + "\n")
            self.both([("letter", 1, "k", worth)], "letter 1 k " + word + "\n")

    def test_edges_of_moments(self):
        for moment in (0, 1, 9, 10, GREATEST, GREATEST + 1, LAST_MOMENT - 1, LAST_MOMENT):
            word = str(moment)
            self.both([("begin", moment, 1)], "begin " + word + " 1\n")
            self.both([("done", moment, 0, 1)], "done " + word + " 0 1\n")
            self.both([("letter", moment, "k", 1)], "letter " + word + " k 1\n")

    def test_edges_of_tickets(self):
        for ticket in (0, 1, 10, 299, GREATEST - 1, GREATEST):
            self.both([("done", 1, ticket, 1)], "done 1 " + str(ticket) + " 1\n")

    def test_keys(self):
        for key in ("a", "z", "abcdef", "zzzzzz", "begin", "letter", "dones"):
            self.both([("letter", 1, key, 1)], "letter 1 " + key + " 1\n")

    def test_a_row_in_its_order(self):
        self.both(ROW, "letter 1 k 9\nbegin 2 5\nbegin 3 6\ndone 4 7 1\nletter 9 k 8\nletter 8 l -\ndone 12 1 -\n"
                       "done 13 0 1\ndone 14 2 77\ndone 14 4 3\nletter 14 k -\ndone 10 3 5\ndone 20 5 -\n"
                       "letter 21 k 0\ndone 22 6 -\nletter 23 k 1\nbegin 24 1\n")

    def test_more_than_three_hundred(self):
        self.both([("letter", k, "k", -k) for k in range(1000)],
                  "".join("letter {} k {}\n".format(k, -k) for k in range(1000)))


class BehindTheLastLineFeed(unittest.TestCase):
    def test_it_is_dropped(self):
        for rest in ("begin 0 5", "b", " ", "nothing at all", "begin", "done 1", "\r", "\u00e9", "letter 1 k 5 6", "-"):
            self.assertEqual(read_log(rest), [])
            self.assertEqual(read_log("begin 0 5\n" + rest), [("begin", 0, 5)])

    def test_every_beginning_of_a_text(self):
        text = show_log(ROW)
        for cut in range(len(text) + 1):
            self.assertEqual(read_log(text[:cut]), ROW[:text[:cut].count("\n")])

    def test_a_bad_line_ahead_is_refused_all_the_same(self):
        with self.assertRaises(NoLog) as taken:
            read_log("begin 0 5\nbad\nbegin 0")
        self.assertEqual(taken.exception.line, 1)


class LinesThatAreNone(unittest.TestCase):
    def refuses(self, line):
        for ahead in (0, 1, 3):
            for behind in ("", "begin 0 1\n", "bad\n", "bad"):
                text = "letter 0 k 1\n" * ahead + line + "\n" + behind
                with self.subTest(text=text[:200]):
                    with self.assertRaises(NoLog) as taken:
                        read_log(text)
                    self.assertEqual(taken.exception.line, ahead)
                    self.assertIs(type(taken.exception.line), int)

    def test_an_empty_one(self):
        self.refuses("")

    def test_the_first_one_is_told(self):
        for text, number in (("\n", 0), ("\n\n", 0), ("begin 0 1\n\n", 1), ("begin 0 1\n\n\n", 1),
                             ("begin 0 1\nbegin 0 1\nx\ny\n", 2), ("begin 0 1\n" * 300 + "x\n", 300)):
            with self.assertRaises(NoLog) as taken:
                read_log(text)
            self.assertEqual(taken.exception.line, number)

    def test_other_first_words(self):
        for word in ("", "Begin", "BEGIN", "begins", "start", "tick", "answer", "end", "new", "0", "-", "moment"):
            self.refuses(word)
            self.refuses(word + " 0 1")
            self.refuses(word + " 0 0 1")
            self.refuses(word + " 0 k 1")

    def test_too_few_or_too_many_words(self):
        for line in ("begin 0 1", "done 0 1 2", "letter 0 k 1"):
            words = line.split(" ")
            for k in range(len(words)):
                self.refuses(" ".join(words[:k] + words[k + 1:]))
                self.refuses(" ".join(words[:k] + ["1"] + words[k:]) if k else "1 " + line)
            self.refuses(line + " 1")
            self.refuses(line + " -")
            self.refuses(line + " k")
            self.refuses(line + " " + line)

    def test_words_of_another_line(self):
        for line in ("begin 0 k", "begin k 0", "begin - 1", "done 0 k 1", "done 0 - 1", "done - 0 1", "done k 0 1",
                     "done 0 0 k", "letter 0 1 1", "letter 0 - 1", "letter k 0 1", "letter - k 1", "letter 0 k k",
                     "begin 0 0 1", "begin 0 k 1", "done 0 1", "letter 0 1", "letter 0 k"):
            self.refuses(line)

    def test_blanks(self):
        for line in ("begin 0 1", "done 0 1 2", "letter 0 k 1", "begin 0 -"):
            self.refuses(" " + line)
            self.refuses(line + " ")
            self.refuses(line.replace(" ", "  "))
            self.refuses(line.replace(" ", "\t"))
            self.refuses(line.replace(" ", "\u00a0"))
            self.refuses(line.replace(" ", ""))
            for k in range(len(line)):
                if line[k] == " ":
                    self.refuses(line[:k] + " " + line[k:])
        self.refuses(" ")
        self.refuses("   ")

    def test_other_ends_of_lines(self):
        for feed in ("\r", "\x0b", "\x0c", "\x1c", "\x85", "\u2028"):
            self.refuses("begin 0 1" + feed)
            self.refuses("letter 0 k" + feed + " 1")
            self.refuses("begin 0 1" + feed + "begin 0 1")

    def test_numbers_that_are_none(self):
        for word in ("", "00", "01", "-0", "-00", "-01", "+1", "+0", "--1", "--", "1.0", "1.", "1e3", "1_0", "0x1",
                     "none", "None", "9" * 5000, "-" + "9" * 5000, "0" * 13, "\u0661", "\u00b2", "\uff11", "1a", "=",
                     "9999999999999"):
            self.refuses("begin " + word + " 1")
            self.refuses("begin 0 " + word)
            self.refuses("done " + word + " 0 1")
            self.refuses("done 0 " + word + " 1")
            self.refuses("done 0 0 " + word)
            self.refuses("letter " + word + " k 1")
            self.refuses("letter 0 k " + word)

    def test_numbers_beyond(self):
        for word in ("1000000001", "-1000000001", "10000000000", "-9999999999", "1000000000000"):
            self.refuses("begin 0 " + word)
            self.refuses("done 0 0 " + word)
            self.refuses("letter 0 k " + word)
        for word in ("1000000000001", "9999999999999", "-1", "-1000000000", "10000000000000"):
            self.refuses("begin " + word + " 1")
            self.refuses("done " + word + " 0 1")
            self.refuses("letter " + word + " k 1")
        for word in ("1000000001", "9999999999", "-1", "-1000000000", "1000000000000"):
            self.refuses("done 0 " + word + " 1")

    def test_keys_that_are_none(self):
        for word in OWN_WORDS + ["", "abcdefg", "A", "aB", "a1", "a_b", "0", "\u00e9", "a.", "k\r"]:
            self.refuses("letter 0 " + word + " 1")

    def test_it_is_no_other_refusal(self):
        with self.assertRaises(NoLog) as taken:
            read_log("a = 1\n")
        self.assertNotIsInstance(taken.exception, NoProgram)

    def test_huge_texts(self):
        for text in ("\n" * 100000, "x" * 100000 + "\n", " " * 100000 + "\n", "begin 0 " + "1" * 100000 + "\n"):
            with self.assertRaises(NoLog) as taken:
                read_log(text)
            self.assertEqual(taken.exception.line, 0)


class RunAgain(unittest.TestCase):
    def setUp(self):
        self.program = read_program(TEXT)

    def by_hand(self, row):
        run = Run(self.program)
        return run, [run.take(happening) for happening in row]

    def test_what_it_tells(self):
        run, commands = run_again(self.program, ROW)
        self.assertIs(type(run), Run)
        self.assertIs(type(commands), list)
        self.assertEqual(commands, [
            [], [("order", 0, "w", 5), ("timer", 1, 12)], [], [], [], [],
            [("drop", 0), ("send", 0, "late", 12), ("order", 2, "w", 5), ("timer", 3, 22)], [],
            [("send", 77, "key", 8), ("order", 4, "w", 5), ("timer", 5, 24)],
            [], [("send", 3, "key", None), ("order", 6, "w", 5), ("timer", 7, 24)],
            [], [], [], [("send", None, "key", 0), ("end", 22)], [], []])
        self.assertEqual(run.waits(), ("ended", 22))

    def test_as_by_hand(self):
        run, commands = run_again(self.program, ROW)
        other, same = self.by_hand(ROW)
        self.assertEqual(commands, same)
        self.assertEqual(run.state(), other.state())

    def test_of_no_happenings(self):
        run, commands = run_again(self.program, [])
        self.assertEqual((commands, run.state()), ([], ("new",)))

    def test_a_list_for_each_happening(self):
        run, commands = run_again((), [("letter", 0, "k", 1), ("begin", 0, 1), ("begin", 0, 1)])
        self.assertEqual(commands, [[], [("end", None)], []])
        self.assertEqual(run.waits(), ("ended", None))

    def test_over_each_beginning(self):
        whole = run_again(self.program, ROW)[1]
        run = Run(self.program)
        for many in range(len(ROW) + 1):
            again, commands = run_again(self.program, ROW[:many])
            self.assertEqual(commands, whole[:many])
            self.assertEqual(again.state(), run.state())
            self.assertEqual(again.waits(), run.waits())
            self.assertEqual(again.open_tickets(), run.open_tickets())
            # It goes on as the whole.
            self.assertEqual([again.take(happening) for happening in ROW[many:]], whole[many:])
            if many < len(ROW):
                run.take(ROW[many])

    def test_asked_again_it_tells_the_same(self):
        one, other = run_again(self.program, ROW), run_again(self.program, ROW)
        self.assertIsNot(one[0], other[0])
        self.assertEqual(one[1], other[1])
        self.assertEqual(one[0].state(), other[0].state())

    def test_over_a_log_written_and_read(self):
        run, commands = run_again(read_program(TEXT), read_log(show_log(ROW)))
        other, same = run_again(self.program, ROW)
        self.assertEqual(commands, same)
        self.assertEqual(run.state(), other.state())


class AskersOwn(unittest.TestCase):
    def test_what_is_handed_in_is_not_changed(self):
        row = copy.deepcopy(ROW)
        show_log(row)
        run_again(read_program(TEXT), row)
        self.assertEqual(row, ROW)

    def test_what_becomes_of_a_list_changes_nothing(self):
        row = list(ROW)
        run, commands = run_again(read_program(TEXT), row)
        state, told = run.state(), copy.deepcopy(commands)
        row.clear()
        self.assertEqual((run.state(), commands), (state, told))

    def test_no_two_lists_told_are_one(self):
        program = read_program(TEXT)
        one, other = run_again(program, ROW)[1], run_again(program, ROW)[1]
        lists = [one, other, *one, *other, run_again(program, [])[1], run_again(program, [])[1]]
        self.assertEqual(len({id(some) for some in lists}), len(lists))
        logs = [read_log(""), read_log(""), read_log("begin 0 1\n"), read_log("begin 0 1\n")]
        self.assertEqual(len({id(some) for some in logs}), len(logs))

    def test_what_is_done_with_told_lists_changes_nothing(self):
        program = read_program(TEXT)
        run, commands = run_again(program, ROW[:7])
        for some in commands:
            some.append("mine")
        commands.clear()
        other, _ = run_again(program, ROW[:7])
        self.assertEqual(run.take(ROW[7]), other.take(ROW[7]))
        self.assertEqual(run.state(), other.state())
        read_log("begin 0 1\n").append("mine")
        self.assertEqual(read_log("begin 0 1\n"), [("begin", 0, 1)])


if __name__ == "__main__":
    unittest.main()
