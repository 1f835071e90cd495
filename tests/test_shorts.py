import copy
import inspect
import unittest

from outlast.logs import run_again
from outlast.readers import read_program
from outlast.runs import Run
from outlast.shorts import come_up_run, keep_run

GREATEST = 10 ** 9
LAST_MOMENT = 10 ** 12

TEXT = """while 1
a = order w arg
t = timer 10
b = wait a t
if ( b = t )
drop a
send 0 late now
else
c = hear k
send answer a key c
if ( c = 0 )
end now
done
done
done
"""

ROW = [("letter", 1, "k", 9), ("begin", 2, 5), ("begin", 3, 6), ("done", 4, 7, 1), ("letter", 9, "k", 8),
       ("letter", 8, "l", None), ("done", 12, 1, None), ("done", 13, 0, 1), ("done", 14, 2, 77),
       ("done", 14, 4, 3), ("letter", 14, "k", None), ("done", 10, 3, 5), ("done", 20, 5, None), ("letter", 21, "k", 0),
       ("done", 22, 6, None), ("letter", 23, "k", 1), ("begin", 24, 1)]


def run_of(text, *happenings):
    return run_again(read_program(text), list(happenings))[0]


def begun(text, arg=None, moment=0):
    return run_of(text, ("begin", moment, arg))


def lines(*rows):
    return "".join(row + "\n" for row in rows)


class Interface(unittest.TestCase):
    def test_arguments(self):
        self.assertEqual(list(inspect.signature(keep_run).parameters), ["run"])
        self.assertEqual(list(inspect.signature(come_up_run).parameters), ["program", "text"])

    def test_kinds(self):
        self.assertIs(type(keep_run(Run(()))), str)
        self.assertIs(type(come_up_run((), "new\n")), Run)


class Kept(unittest.TestCase):
    def keeps(self, run, *rows):
        text = lines(*rows)
        state = run.state()
        self.assertEqual(keep_run(run), text)
        self.assertEqual(keep_run(run), text)
        self.assertEqual(run.state(), state)

    def both(self, text, run, *rows):
        self.keeps(run, *rows)
        again = come_up_run(read_program(text), lines(*rows))
        self.keeps(again, *rows)
        self.assertEqual(again.state(), run.state())
        self.assertEqual(again.waits(), run.waits())
        self.assertEqual(again.open_tickets(), run.open_tickets())

    def test_new(self):
        for text in ("", "a = 1\n", TEXT):
            self.both(text, run_of(text), "new")
            self.both(text, run_of(text, ("letter", 5, "k", 1), ("done", 6, 0, 1)), "new")

    def test_ended(self):
        self.both("", begun(""), "ended -")
        self.both("end 5\n", begun("end 5\n"), "ended 5")
        self.both("end 0\n", begun("end 0\n"), "ended 0")
        self.both("end none\n", begun("end none\n"), "ended -")
        for worth in (GREATEST, -GREATEST, -1):
            text = f"a = order w 1\nend {worth}\n"
            self.both(text, begun(text, 7, 8), f"ended {worth}")

    def test_worn(self):
        text = "a = order w 1\nwhile 1\ndone\n"
        self.both(text, begun(text, 3, 4), "worn")

    def test_a_hear(self):
        self.both("a = hear k\n", begun("a = hear k\n"), "at 0", "now 0", "arg -", "made 0")
        self.both("a = hear k\n", begun("a = hear k\n", -5, 77), "at 0", "now 77", "arg -5", "made 0")
        self.both("a = hear k\n", begun("a = hear k\n", 0, LAST_MOMENT),
                  "at 0", f"now {LAST_MOMENT}", "arg 0", "made 0")

    def test_a_wait_for_one_to_four(self):
        head = "".join(f"{name} = order w 1\n" for name in "abcd")
        names = ("name a 0", "name b 1", "name c 2", "name d 3")
        pending = ("open 0", "open 1", "open 2", "open 3")
        for sayings, tickets in (("a", "0"), ("d", "3"), ("b a", "0 1"), ("c c c", "2"), ("d 0 b", "0 1 3"),
                                 ("d b c a", "0 1 2 3"), ("a 9 none a", "0"), ("a answer a b", "0 1")):
            text = head + f"e = wait {sayings}\n"
            self.both(text, begun(text), "at 4", f"for {tickets}", "now 0", "arg -", *names, "made 4", *pending)

    def test_tickets_by_number_not_by_figures(self):
        head = "".join(f"a{letter} = order w 1\n" for letter in "abcdefghijkl")
        text = head + "b = wait 10 9 2\n"
        self.both(text, begun(text), "at 12", "for 2 9 10", "now 0", "arg -",
                  *[f"name a{letter} {k}" for k, letter in enumerate("abcdefghijkl")], "made 12",
                  *[f"open {k}" for k in range(12)])

    def test_places(self):
        for text, place in (
            ("a = 0\nb = hear k\n", "1"),
            ("if 1\nb = hear k\ndone\n", "0 0 0"),
            ("if 0\nelse\nb = hear k\ndone\n", "0 1 0"),
            ("if 0\nb = hear l\nelse\na = 0\nb = hear k\ndone\n", "0 1 1"),
            ("while 1\nb = hear k\ndone\n", "0 0 0"),
            ("a = 0\nwhile 1\na = 0\na = 0\nb = hear k\ndone\n", "1 0 2"),
            ("a = 0\nif 1\nwhile 1\nif 0\nelse\na = 0\nb = hear k\ndone\ndone\ndone\n", "1 0 0 0 0 1 1"),
            ("if 1\nif 1\nif 1\nif 1\nif 1\nb = hear k\n" + "done\n" * 5, "0 0 0 0 0 0 0 0 0 0 0"),
            ("if 0\nelse\n" * 5 + "b = hear k\n" + "done\n" * 5, "0 1 0 1 0 1 0 1 0 1 0"),
        ):
            rows = ["name a 0"] if "a = 0" in text else []
            self.both(text, begun(text), f"at {place}", "now 0", "arg -", *rows, "made 0")

    def test_names(self):
        text = "b = 1\nab = -2\na = 3\nba = none\nz = 5\nz = gone\naz = 0\nd = hear k\ne = hear k\n"
        run = begun(text)
        rows = ["at 7", "now 0", "arg -", "name a 3", "name ab -2", "name az 0", "name b 1"]
        self.both(text, run, *rows, "made 0")
        run.take(("letter", 0, "k", GREATEST))
        rows[0] = "at 8"
        self.both(text, run, *rows, f"name d {GREATEST}", "made 0")

    def test_a_name_that_got_none(self):
        run = run_of("d = hear k\ne = hear k\n", ("begin", 0, None), ("letter", 0, "k", None))
        self.both("d = hear k\ne = hear k\n", run, "at 1", "now 0", "arg -", "made 0")

    def test_tickets(self):
        text = "".join(f"{name} = order w 1\n" for name in "abcde") + "drop c\nx = hear k\n"
        run = begun(text)
        names = [f"name {name} {k}" for k, name in enumerate("abcde")]
        head = ["at 6", "now 0", "arg -"] + names + ["made 5"]
        self.both(text, run, *head, "open 0", "open 1", "open 3", "open 4")
        run.take(("done", 0, 3, 7))
        self.both(text, run, *head, "open 0", "open 1", "open 4", "done 3 7")
        run.take(("done", 0, 0, None))
        self.both(text, run, *head, "open 1", "open 4", "done 3 7", "done 0 -")
        run.take(("done", 0, 4, -GREATEST))
        run.take(("done", 0, 1, 0))
        self.both(text, run, *head, "done 3 7", "done 0 -", f"done 4 {-GREATEST}", "done 1 0")

    def test_letters(self):
        run = run_of("a = hear k\n", ("begin", 0, 1), ("letter", 3, "z", 1), ("letter", 4, "ab", None),
                     ("letter", 5, "z", -7), ("letter", 2, "b", 0), ("letter", 6, "z", 1), ("letter", 6, "ab", None))
        self.both("a = hear k\n", run, "at 0", "now 6", "arg 1", "made 0", "letter ab -", "letter ab -", "letter b 0",
                  "letter z 1", "letter z -7", "letter z 1")

    def test_all_of_it(self):
        text = ("p = order w arg\nq = timer 60\nr = child c 1\nif arg\nwhile 1\ns = wait r p\nu = hear k\ndone\ndone\n"
                "end 1\n")
        run = begun(text, 4, 10)
        run.take(("letter", 11, "m", 3))
        run.take(("done", 12, 1, None))
        run.take(("letter", 12, "k", None))
        self.both(text, run, "at 3 0 0 0 0", "for 0 2", "now 12", "arg 4", "name p 0", "name q 1", "name r 2", "made 3",
                  "open 0", "open 2", "done 1 -", "letter k -", "letter m 3")
        # The letter is heard, the while looked at again, and the wait finds a done ticket at once.
        run.take(("done", 15, 2, 9))
        self.both(text, run, "at 3 0 0 0 1", "now 15", "arg 4", "name p 0", "name q 1", "name r 2", "name s 2",
                  "made 3", "open 0", "done 1 -", "done 2 9", "letter m 3")


class ComeUp(unittest.TestCase):
    def goes_on_alike(self, program, row):
        whole = run_again(program, row)
        for many in range(len(row) + 1):
            run = run_again(program, row[:many])[0]
            again = come_up_run(program, keep_run(run))
            for number in range(many, len(row)):
                self.assertEqual(again.state(), run.state())
                self.assertEqual(again.waits(), run.waits())
                self.assertEqual(again.open_tickets(), run.open_tickets())
                run.take(row[number])
                self.assertEqual(again.take(row[number]), whole[1][number])
            self.assertEqual(again.state(), whole[0].state())
            self.assertEqual(keep_run(again), keep_run(whole[0]))

    def test_at_any_place_of_a_row(self):
        self.goes_on_alike(read_program(TEXT), ROW)

    def test_stopped_behind_each_happening(self):
        program = read_program(TEXT)
        run = Run(program)
        told = []
        for happening in ROW:
            run = come_up_run(program, keep_run(run))
            told.append(run.take(happening))
        self.assertEqual(told, run_again(program, ROW)[1])
        self.assertEqual(run.state(), run_again(program, ROW)[0].state())

    def test_ends_and_wears_out_alike(self):
        row = [("begin", 5, 1), ("letter", 3, "k", 2), ("done", 7, 0, 1), ("letter", 8, "k", 0), ("done", 9, 1, 1),
               ("begin", 10, 1)]
        for text in ("", "end arg\n", "while 1\ndone\n", "a = hear k\nwhile a\ndone\n", "a = hear k\nend now\n",
                     "a = order w arg\nb = order w now\nc = hear l\n", "a = order w 1\nb = wait a\nend answer b\n"):
            self.goes_on_alike(read_program(text), row)

    def test_now_arg_names_answers_and_made_are_there(self):
        text = ("a = order w 1\nb = order w 2\nn = 7\nc = hear k\nsend now s arg\nsend n s answer a\n"
                "t = timer 5\nx = wait b a\nend x\n")
        row = [("begin", 30, 4), ("done", 40, 1, 8), ("done", 35, 0, 9), ("letter", 20, "k", None)]
        run = come_up_run(read_program(text), keep_run(run_again(read_program(text), row[:3])[0]))
        self.assertEqual(run.take(row[3]), [("send", 40, "s", 4), ("send", 7, "s", 9), ("timer", 2, 45), ("end", 1)])

    def test_in_the_order_in_which_they_were_done(self):
        text = "a = order w 1\nb = order w 2\nc = hear k\nx = wait a b\nend x\n"
        rows = ("at 2", "now 0", "arg -", "name a 0", "name b 1", "made 2")
        for done, first in ((("done 0 1", "done 1 1"), 0), (("done 1 1", "done 0 1"), 1)):
            run = come_up_run(read_program(text), lines(*rows, *done))
            self.assertEqual(run.take(("letter", 0, "k", 1)), [("end", first)])

    def test_letters_in_their_order(self):
        text = "a = hear k\nb = hear l\nc = hear l\nsend a s b\nsend a s c\n"
        run = come_up_run(read_program(text), lines("at 0", "now 0", "arg -", "made 0", "letter l 2", "letter l -"))
        self.assertEqual(run.take(("letter", 0, "k", 1)), [("send", 1, "s", 2), ("send", 1, "s", None), ("end", None)])

    def test_a_while_is_looked_at_again(self):
        text = "while 1\na = hear k\nsend 0 s a\ndone\n"
        run = come_up_run(read_program(text), lines("at 0 0 0", "now 0", "arg -", "made 0"))
        for worth in (1, None, 2):
            self.assertEqual(run.take(("letter", 0, "k", worth)), [("send", 0, "s", worth)])

    def test_behind_an_if_it_goes_on(self):
        text = "if 0\na = hear k\nelse\na = hear l\ndone\nend a\n"
        rows = ("now 0", "arg -", "made 0")
        for place, key in (("at 0 0 0", "k"), ("at 0 1 0", "l")):
            run = come_up_run(read_program(text), lines(place, *rows))
            self.assertEqual(run.waits(), ("hear", key))
            self.assertEqual(run.take(("letter", 0, key, 6)), [("end", 6)])

    def test_ended_ones_pass_all_over(self):
        for text, waits in (("ended 7\n", ("ended", 7)), ("ended -\n", ("ended", None)), ("worn\n", ("worn",))):
            run = come_up_run(read_program("a = hear k\n"), text)
            for happening in ROW:
                self.assertEqual(run.take(happening), [])
            self.assertEqual(run.waits(), waits)
            self.assertEqual(run.open_tickets(), [])
            self.assertEqual(keep_run(run), text)

    def test_a_new_one_begins(self):
        run = come_up_run(read_program("end now\n"), "new\n")
        self.assertEqual(run.take(("letter", 9, "k", 1)), [])
        self.assertEqual(run.take(("begin", 4, 1)), [("end", 4)])

    def test_two_from_one_text_go_their_own_ways(self):
        program = read_program(TEXT)
        run = run_again(program, ROW[:7])[0]
        text = keep_run(run)
        one = come_up_run(program, text)
        other = come_up_run(program, text)
        one.take(("letter", 50, "k", 3))
        one.take(("done", 50, 2, 5))
        self.assertEqual(keep_run(other), text)
        self.assertEqual(keep_run(run), text)
        self.assertNotEqual(keep_run(one), text)
        other.take(("done", 60, 3, None))
        self.assertEqual(keep_run(run), text)
        self.assertNotEqual(keep_run(one), keep_run(other))
        self.assertEqual(keep_run(come_up_run(program, text)), text)


class WithoutARow(unittest.TestCase):
    """States of the told form to which no row of happenings leads."""

    def comes_up(self, program_text, *rows):
        run = come_up_run(read_program(program_text), lines(*rows))
        self.assertEqual(keep_run(run), lines(*rows))
        return run

    def test_ended_with_a_worth_that_no_end_tells(self):
        self.assertEqual(self.comes_up("", "ended 44").waits(), ("ended", 44))
        self.assertEqual(self.comes_up("a = hear k\n", "worn").waits(), ("worn",))

    def test_within_a_block_that_is_never_entered(self):
        run = self.comes_up("while 0\na = hear k\ndone\nend 5\n", "at 0 0 0", "now 0", "arg -", "made 0")
        self.assertEqual(run.take(("letter", 0, "k", 1)), [("end", 5)])
        run = self.comes_up("end 1\na = hear k\nend a\n", "at 1", "now 0", "arg -", "made 0")
        self.assertEqual(run.take(("letter", 0, "k", 8)), [("end", 8)])

    def test_more_tickets_than_the_program_makes(self):
        run = self.comes_up("a = wait 0\nb = order w a\nend a\n", "at 0", "for 3 17 500 999", "now 5", "arg 1",
                            "made 1000", "open 3", "open 17", "open 500", "open 999", "done 2 -", "done 0 1")
        self.assertEqual(run.waits(), ("wait", (3, 17, 500, 999)))
        self.assertEqual(run.open_tickets(), [3, 17, 500, 999])
        self.assertEqual(run.take(("done", 0, 0, 5)), [])
        self.assertEqual(run.take(("done", 0, 500, 5)), [("order", 1000, "w", 500), ("end", 500)])

    def test_tickets_that_are_neither_open_nor_done(self):
        run = self.comes_up("a = hear k\nb = wait 0 4\nend b\n", "at 0", "now 0", "arg -", "made 9", "open 4")
        self.assertEqual(run.take(("letter", 0, "k", 1)), [])
        self.assertEqual(run.waits(), ("wait", (4,)))

    def test_the_greatest_made(self):
        run = self.comes_up("a = hear k\nb = order w 1\n", "at 0", "now 0", "arg -", f"made {GREATEST}",
                            f"open {GREATEST - 1}")
        self.assertEqual(run.take(("letter", 0, "k", 1)), [("order", GREATEST, "w", 1), ("end", None)])

    def test_the_greatest_and_least_of_all(self):
        self.comes_up("a = hear k\n", "at 0", f"now {LAST_MOMENT}", f"arg {GREATEST}", f"name a {-GREATEST}", "made 1",
                      f"done 0 {GREATEST}", f"letter zzzzzz {-GREATEST}")

    def test_names_that_it_could_not_have_yet(self):
        run = self.comes_up("a = hear k\nsend b s c\nb = 1\nif 0\nc = timer 1\ndone\n",
                            "at 0", "now 0", "arg -", "name a 1", "name b 2", "name c -3", "made 0")
        self.assertEqual(run.take(("letter", 0, "k", 1)), [("send", 2, "s", -3), ("end", None)])

    def test_names_given_by_each_kind(self):
        text = ("hh = hear k\na = 1\nb = order w 1\nc = timer 1\nd = child p 1\ne = wait 1\nwhile 1\nif 1\nf = 1\n"
                "else\ng = hear k\ndone\ndone\n")
        self.comes_up(text, "at 0", "now 0", "arg -", "name a 1", "name b 1", "name c 1", "name d 1", "name e 1",
                      "name f 1", "name g 1", "name hh 1", "made 0")

    def test_letters_of_keys_that_the_program_has_not(self):
        self.comes_up("a = hear k\n", "at 0", "now 0", "arg -", "made 0", "letter a 1", "letter j 2", "letter ka -",
                      "letter l 1", "letter z 1")

    def test_a_wait_with_letters_of_all_keys(self):
        self.comes_up("a = wait 0\nb = hear k\n", "at 0", "for 0", "now 0", "arg -", "made 1", "open 0", "letter k 1")

    def test_done_where_now_is_nought(self):
        self.comes_up("a = hear k\n", "at 0", "now 0", "arg -", "made 3", "done 2 1", "done 1 1", "done 0 1")


class NothingElseIsChanged(unittest.TestCase):
    def test_keeping_and_coming_up(self):
        program = read_program(TEXT)
        before = copy.deepcopy(program)
        run = run_again(program, ROW[:7])[0]
        state = run.state()
        text = keep_run(run)
        again = come_up_run(program, text)
        for happening in ROW[7:]:
            again.take(happening)
        self.assertEqual(program, before)
        self.assertEqual(run.state(), state)
        self.assertEqual(keep_run(run), text)

    def test_lists_told_are_the_askers_own(self):
        program = read_program("a = order w 1\nb = order w 1\nc = wait a b\nd = order w c\n")
        text = keep_run(run_again(program, [("begin", 0, 1)])[0])
        run = come_up_run(program, text)
        run.open_tickets().clear()
        self.assertEqual(run.open_tickets(), [0, 1])
        told = run.take(("done", 0, 0, 1))
        told.clear()
        self.assertEqual(run.waits(), ("ended", None))
        self.assertEqual(come_up_run(program, text).take(("done", 0, 0, 1)), [("order", 2, "w", 0), ("end", None)])

    def test_programs_somewhat_beyond_the_bounds(self):
        deep = (("hear", "a", "k"),)
        for _ in range(9):
            deep = (("if", ("number", 1), (), (("while", ("number", 1), deep),)),)
        deep = (("set", "b", ("number", 1)),) * 70 + deep
        place = "70 1 0 0 " + "0 1 0 0 " * 8 + "0"
        run = come_up_run(deep, lines("at " + place, "now 0", "arg -", "name b 1", "made 0"))
        self.assertEqual(run.waits(), ("hear", "k"))
        self.assertEqual(keep_run(run), lines("at " + place, "now 0", "arg -", "name b 1", "made 0"))


if __name__ == "__main__":
    unittest.main()
