"""What is kept: inputs written and read, houses kept and come up."""

import copy
import inspect
import unittest

from outlast.errors import NoLog, NoRun, OutlastError
from outlast.house import House
from outlast.keeping import come_up_house, keep_house, read_inputs, show_inputs
from outlast.readers import read_program

GREATEST = 10 ** 9
LAST_MOMENT = 10 ** 12
FORTY = 10 ** 40 - 1
OWN_WORDS = ("order timer child send drop wait hear if else done while end none arg now answer not").split()

PROGRAMS = {
    "shop": read_program(
        "while 1\nn = hear buy\nc = child cook n\nt = timer 30\nw = wait c t\nif ( w = t )\ndrop c\nelse\n"
        "drop t\ndone\nsend 1 count answer w\ndone\n"),
    "cook": read_program("t = order bake arg\nu = order brew ( arg * 2 )\nw = wait t\nx = wait u\n"
                         "end ( answer t + answer u )\n"),
    "book": read_program("s = 0\nwhile ( s < 100 )\nn = hear count\ns = ( s + n )\ndone\nend s\n"),
    "loop": read_program("send 0 buy 1\nwhile 1\nsend 2 k 1\nk = hear k\ndone\n"),
    "worn": read_program("t = order bake 1\nu = timer 5\nwhile 1\ndone\n"),
}

ROW = [("start", 1, "shop", 0), ("start", 1, "book", None), ("letter", 2, 0, "buy", 5), ("answer", 4, 2, 0, 7),
       ("answer", 3, 2, 0, 8), ("tick", 20), ("start", 20, "nobody", 4), ("answer", 21, 2, 1, -7),
       ("letter", 21, 9, "k", 1),
       ("letter", 22, 0, "buy", None), ("tick", 52), ("answer", 53, 3, 0, 1), ("start", 54, "loop", 6),
       ("answer", 55, 3, 1, 10 ** 9), ("start", 56, "worn", -1), ("tick", 5), ("answer", 57, -4, FORTY, 1),
       ("letter", 58, -FORTY, "buy", 0), ("letter", 59, 1, "count", 200), ("tick", 10 ** 12)]


def told(house):
    # All things that can be asked of a house.
    return (house.moment(), house.inputs(), house.runs(), house.open_orders(), house.open_timers(), house.next_due(),
            [house.program(name) for name in sorted(PROGRAMS)],
            [(house.program_of(run), house.waits(run), house.taken(run), house.parent(run))
             for run in range(house.runs())])


def house_of(row):
    house = House(PROGRAMS)
    for some in row:
        house.take(some)
    return house


class Interface(unittest.TestCase):
    def test_arguments(self):
        for function, arguments in ((show_inputs, ["inputs"]), (read_inputs, ["text"]), (keep_house, ["house"]),
                                    (come_up_house, ["programs", "text"])):
            self.assertEqual(list(inspect.signature(function).parameters), arguments)

    def test_kinds(self):
        self.assertIs(type(show_inputs([])), str)
        self.assertIs(type(read_inputs("")), list)
        self.assertIs(type(keep_house(House({}))), str)
        self.assertIs(type(come_up_house({}, "")), House)


class WrittenAndRead(unittest.TestCase):
    def both(self, inputs, text):
        self.assertEqual(show_inputs(inputs), text)
        found = read_inputs(text)
        self.assertEqual(found, inputs)
        self.assertEqual([[type(part) for part in one] for one in found],
                         [[type(part) for part in one] for one in inputs])
        self.assertTrue(all(type(one) is tuple for one in found))

    def test_none(self):
        self.both([], "")

    def test_each_line(self):
        self.both([("start", 3, "shop", 5)], "start 3 shop 5\n")
        self.both([("answer", 3, 0, 1, 5)], "answer 3 0 1 5\n")
        self.both([("letter", 3, 0, "key", 5)], "letter 3 0 key 5\n")
        self.both([("tick", 3)], "tick 3\n")

    def test_none_is_a_stroke(self):
        self.both([("start", 3, "shop", None)], "start 3 shop -\n")
        self.both([("answer", 3, 0, 1, None)], "answer 3 0 1 -\n")
        self.both([("letter", 3, 0, "key", None)], "letter 3 0 key -\n")

    def test_edges_of_worths(self):
        for worth in (0, 1, -1, 10, -10, GREATEST, -GREATEST, GREATEST - 1, 999, -1000):
            word = str(worth)
            self.both([("start", 1, "a", worth)], "start 1 a " + word + "\n")
            self.both([("answer", 1, 2, 3, worth)], "answer 1 2 3 " + word + "\n")
            self.both([("letter", 1, 2, "k", worth)], "letter 1 2 k " + word + "\n")

    def test_edges_of_moments(self):
        for moment in (0, 1, 9, 10, GREATEST, GREATEST + 1, LAST_MOMENT - 1, LAST_MOMENT):
            word = str(moment)
            self.both([("start", moment, "a", 1)], "start " + word + " a 1\n")
            self.both([("answer", moment, 2, 3, 1)], "answer " + word + " 2 3 1\n")
            self.both([("letter", moment, 2, "k", 1)], "letter " + word + " 2 k 1\n")
            self.both([("tick", moment)], "tick " + word + "\n")

    def test_numbers_of_runs_and_tickets(self):
        for number in (0, 1, -1, 9, -9, 10, -10, GREATEST + 1, LAST_MOMENT + 1, 10 ** 39, 10 ** 39 - 1, -10 ** 39,
                       FORTY, -FORTY, FORTY - 1, int("12" * 20)):
            word = str(number)
            self.both([("answer", 1, number, 3, 1)], "answer 1 " + word + " 3 1\n")
            self.both([("answer", 1, 2, number, 1)], "answer 1 2 " + word + " 1\n")
            self.both([("answer", 1, number, number, 1)], "answer 1 " + word + " " + word + " 1\n")
            self.both([("letter", 1, number, "k", 1)], "letter 1 " + word + " k 1\n")

    def test_names(self):
        for name in ("a", "z", "abcdef", "zzzzzz", "start", "letter", "tick", "begin", "ends"):
            self.both([("start", 1, name, 1)], "start 1 " + name + " 1\n")
            self.both([("letter", 1, 2, name, 1)], "letter 1 2 " + name + " 1\n")

    def test_a_row_in_its_order(self):
        self.both([("tick", 9), ("start", 3, "a", 0), ("tick", 2), ("letter", 3, -1, "k", None), ("tick", 2)],
                  "tick 9\nstart 3 a 0\ntick 2\nletter 3 -1 k -\ntick 2\n")

    def test_more_than_three_hundred(self):
        self.both([("letter", k, k, "k", -k) for k in range(1000)],
                  "".join("letter {} {} k {}\n".format(k, k, -k) for k in range(1000)))


class BehindTheLastLineFeed(unittest.TestCase):
    def test_it_is_dropped(self):
        for rest in ("tick 5", "t", " ", "nothing at all", "start", "answer 1", "tick", "letter 1 2 k 5 6", "-"):
            self.assertEqual(read_inputs(rest), [])
            self.assertEqual(read_inputs("tick 0\n" + rest), [("tick", 0)])

    def test_every_beginning_of_a_text(self):
        text = show_inputs(ROW)
        for cut in range(len(text) + 1):
            self.assertEqual(read_inputs(text[:cut]), ROW[:text[:cut].count("\n")])

    def test_a_bad_line_ahead_is_refused_all_the_same(self):
        for function in (read_inputs, lambda text: come_up_house(PROGRAMS, text)):
            with self.assertRaises(NoLog) as taken:
                function("tick 5\nbad\ntick")
            self.assertEqual(taken.exception.line, 1)


class LinesThatAreNone(unittest.TestCase):
    def refuses(self, line):
        for ahead in (0, 1, 3):
            for behind in ("", "tick 1\n", "bad\n", "bad"):
                text = "letter 0 0 k 1\n" * ahead + line + "\n" + behind
                for function in (read_inputs, lambda text: come_up_house({}, text)):
                    with self.subTest(text=text[:200]):
                        with self.assertRaises(NoLog) as taken:
                            function(text)
                        self.assertEqual(taken.exception.line, ahead)
                        self.assertIs(type(taken.exception.line), int)

    def test_an_empty_one(self):
        self.refuses("")

    def test_the_first_one_is_told(self):
        for text, number in (("\n", 0), ("\n\n", 0), ("tick 0\n\n", 1), ("tick 0\n\n\n", 1),
                             ("tick 0\ntick 1\nx\ny\n", 2), ("tick 0\n" * 400 + "x\n", 400)):
            with self.assertRaises(NoLog) as taken:
                read_inputs(text)
            self.assertEqual(taken.exception.line, number)

    def test_a_refusal_of_the_programs(self):
        with self.assertRaises(OutlastError):
            come_up_house(PROGRAMS, "\n")

    def test_other_first_words(self):
        for word in ("", "Start", "TICK", "ticks", "begin", "done", "stop", "0", "-", "moment"):
            self.refuses(word)
            self.refuses(word + " 0")
            self.refuses(word + " 0 a 1")
            self.refuses(word + " 0 0 0 1")
            self.refuses(word + " 0 0 k 1")

    def test_too_few_or_too_many_words(self):
        for line in ("start 0 a 1", "answer 0 1 2 3", "letter 0 1 k 2", "tick 0"):
            words = line.split(" ")
            for k in range(len(words)):
                self.refuses(" ".join(words[:k] + words[k + 1:]))
                self.refuses(" ".join(words[:k] + ["1"] + words[k:]) if k else "1 " + line)
            self.refuses(line + " 1")
            self.refuses(line + " -")
            self.refuses(line + " k")
            self.refuses(line + " " + line)

    def test_words_of_another_line(self):
        for line in ("start 0 0 1", "start 0 - 1", "start a 0 1", "start - a 1", "start 0 a k", "answer 0 k 1 1",
                     "answer 0 1 k 1", "answer 0 1 1 k", "answer k 1 1 1", "answer - 1 1 1", "answer 0 - 1 1",
                     "answer 0 1 - 1", "letter 0 1 1 1", "letter 0 1 - 1", "letter 0 - k 1", "letter 0 k k 1",
                     "letter - 1 k 1", "letter 0 1 k k", "tick k", "tick -", "start 0 0 0 1", "answer 0 a 1",
                     "letter 0 k 1", "tick 0 0"):
            self.refuses(line)

    def test_blanks(self):
        for line in ("start 0 a 1", "answer 0 1 2 3", "letter 0 1 k 2", "tick 0", "start 0 a -"):
            self.refuses(" " + line)
            self.refuses(line + " ")
            self.refuses(line.replace(" ", "  "))
            self.refuses(line.replace(" ", ""))
            for k in range(len(line)):
                if line[k] == " ":
                    self.refuses(line[:k] + " " + line[k:])
        self.refuses(" ")
        self.refuses("   ")

    def test_numbers_that_are_none(self):
        for word in ("", "00", "01", "-0", "-00", "-01", "+1", "+0", "--1", "--", "1.0", "1.", "1e3", "1_0", "0x1",
                     "none", "None", "9" * 5000, "-" + "9" * 5000, "0" * 13, "1a", "="):
            self.refuses("start " + word + " a 1")
            self.refuses("start 0 a " + word)
            self.refuses("answer " + word + " 0 0 1")
            self.refuses("answer 0 " + word + " 0 1")
            self.refuses("answer 0 0 " + word + " 1")
            self.refuses("answer 0 0 0 " + word)
            self.refuses("letter " + word + " 0 k 1")
            self.refuses("letter 0 " + word + " k 1")
            self.refuses("letter 0 0 k " + word)
            self.refuses("tick " + word)

    def test_forty_one_figures(self):
        for word in ("1" + "0" * 40, "-1" + "0" * 40, "9" * 41, "-" + "9" * 41, "0" + "9" * 40, "-0" + "9" * 40,
                     "0" + "9" * 39, "-0" + "9" * 39, "0" * 40):
            self.refuses("answer 0 " + word + " 0 1")
            self.refuses("answer 0 0 " + word + " 1")
            self.refuses("letter 0 " + word + " k 1")

    def test_worths_beyond(self):
        for word in ("1000000001", "-1000000001", "10000000000", "-9999999999", "1000000000000"):
            self.refuses("start 0 a " + word)
            self.refuses("answer 0 0 0 " + word)
            self.refuses("letter 0 0 k " + word)

    def test_moments_beyond(self):
        for word in ("1000000000001", "-1", "9999999999999", "-1000000000000"):
            self.refuses("start " + word + " a 1")
            self.refuses("answer " + word + " 0 0 1")
            self.refuses("letter " + word + " 0 k 1")
            self.refuses("tick " + word)

    def test_names_that_are_none(self):
        for word in OWN_WORDS + ["", "abcdefg", "A", "aB", "a1", "a_b", "1", "a-b"]:
            self.refuses("start 0 " + word + " 1")
            self.refuses("letter 0 0 " + word + " 1")


class KeptAndComeUp(unittest.TestCase):
    def test_the_text(self):
        house = house_of([("start", 7, "shop", 5), ("tick", 3), ("letter", 8, 0, "buy", None),
                          ("answer", 9, 1, 0, -4), ("start", 9, "nobody", 1), ("letter", 2, 77, "k", 0)])
        self.assertEqual(keep_house(house), "start 7 shop 5\ntick 3\nletter 8 0 buy -\nanswer 9 1 0 -4\n"
                                            "start 9 nobody 1\nletter 2 77 k 0\n")

    def test_a_house_that_took_nothing(self):
        self.assertEqual(keep_house(House(PROGRAMS)), "")
        self.assertEqual(told(come_up_house(PROGRAMS, "")), told(House(PROGRAMS)))

    def test_it_tells_the_same_of_all_things(self):
        for many in range(len(ROW) + 1):
            house = house_of(ROW[:many])
            self.assertEqual(told(come_up_house(PROGRAMS, keep_house(house))), told(house))

    def test_it_tells_the_same_at_all_inputs_to_come(self):
        for many in range(len(ROW) + 1):
            house = house_of(ROW[:many])
            other = come_up_house(PROGRAMS, keep_house(house))
            for some in ROW[many:]:
                self.assertEqual(other.take(some), house.take(some))
                self.assertEqual(told(other), told(house))

    def test_it_can_be_kept_again(self):
        text = keep_house(house_of(ROW))
        self.assertEqual(keep_house(come_up_house(PROGRAMS, text)), text)

    def test_from_a_text_cut_anywhere(self):
        text = keep_house(house_of(ROW))
        houses = [told(house_of(ROW[:many])) for many in range(len(ROW) + 1)]
        for cut in range(len(text) + 1):
            self.assertEqual(told(come_up_house(PROGRAMS, text[:cut])), houses[text[:cut].count("\n")])

    def test_one_that_was_spent(self):
        house = House(PROGRAMS)
        for name in ("shop", "book"):
            house.take(("start", 0, name, 0))
        self.assertEqual(house.take(("start", 0, "loop", 0))[-1], ("spent",))
        other = come_up_house(PROGRAMS, keep_house(house))
        self.assertEqual(told(other), told(house))
        self.assertEqual(other.take(("letter", 1, 2, "k", 0)), house.take(("letter", 1, 2, "k", 0)))
        self.assertEqual(told(other), told(house))

    def test_a_house_apart(self):
        house = house_of(ROW[:5])
        other = come_up_house(PROGRAMS, keep_house(house))
        before = copy.deepcopy(told(house))
        other.take(("letter", 9, 0, "buy", 5))
        other.take(("start", 99, "cook", 5))
        self.assertEqual(told(house), before)
        with self.assertRaises(NoRun):
            house.waits(other.runs() - 1)

    def test_what_is_handed_in_is_not_changed(self):
        given = dict(PROGRAMS)
        row = list(ROW)
        show_inputs(row)
        self.assertEqual(row, ROW)
        house = come_up_house(given, show_inputs(row))
        self.assertEqual(given, PROGRAMS)
        given.clear()
        self.assertEqual(told(house), told(house_of(ROW)))
        self.assertEqual(house.take(("start", 0, "cook", 1))[0][0], "order")

    def test_keeping_changes_nothing(self):
        house = house_of(ROW)
        before = copy.deepcopy(told(house))
        keep_house(house)
        self.assertEqual(told(house), before)

    def test_lists_told_are_the_askers(self):
        text = show_inputs(ROW)
        first = read_inputs(text)
        first.clear()
        self.assertEqual(read_inputs(text), ROW)


if __name__ == "__main__":
    unittest.main()
