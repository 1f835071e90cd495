import inspect
import unittest

from outlast.readers import read_program
from outlast.runs import Run

GREATEST = 10 ** 9
LAST_MOMENT = 10 ** 12


def run_of(text):
    return Run(read_program(text))


def begun(text, arg=None, moment=0):
    # A run that took its begin, and the commands that it told.
    run = run_of(text)
    return run, run.take(("begin", moment, arg))


def names_of(run):
    return dict(run.state()[4])


class Runs(unittest.TestCase):
    def tells(self, text, commands, arg=None, moment=0):
        # Told at the begin, the end left out.
        run, told = begun(text, arg, moment)
        self.assertEqual(told, commands + [("end", None)])
        self.assertEqual(run.waits(), ("ended", None))

    def keeps(self, text, names, arg=None, moment=0):
        # What the names have, seen from a hear behind the text.
        run, _ = begun(text + "zz = hear zz\n", arg, moment)
        self.assertEqual(run.waits(), ("hear", "zz"))
        self.assertEqual(names_of(run), names)


class Interface(unittest.TestCase):
    def test_arguments(self):
        self.assertEqual(list(inspect.signature(Run).parameters), ["program"])
        self.assertEqual(list(inspect.signature(Run.take).parameters), ["self", "happening"])
        for method in (Run.waits, Run.open_tickets, Run.state):
            self.assertEqual(list(inspect.signature(method).parameters), ["self"])

    def test_kinds(self):
        run = Run(program=(("order", "t", "w", ("arg",)), ("wait", "w", (("name", "t"),))))
        self.assertIs(type(run.waits()), tuple)
        self.assertIs(type(run.state()), tuple)
        self.assertIs(type(run.take(happening=("begin", 0, 1))), list)
        self.assertIs(type(run.open_tickets()), list)
        self.assertIs(type(run.waits()), tuple)
        self.assertIs(type(run.state()), tuple)
        self.assertIs(type(run.take(("begin", 0, 1))), list)


class EachStatement(Runs):
    def test_none_at_all(self):
        self.tells("", [])

    def test_set(self):
        self.tells("a = 1\n", [])
        self.keeps("a = 7\nb = ( a + arg )\n", {"a": 7, "b": 12}, arg=5)
        self.keeps("a = 7\na = 8\n", {"a": 8})
        self.keeps("a = 7\na = none\n", {})

    def test_order(self):
        self.tells("a = order bake 5\n", [("order", 0, "bake", 5)])
        self.tells("a = order bake none\n", [("order", 0, "bake", None)])
        self.keeps("a = order bake 5\n", {"a": 0})

    def test_timer(self):
        self.tells("a = timer 5\n", [("timer", 0, 5)])
        self.keeps("a = timer 5\n", {"a": 0})

    def test_child(self):
        self.tells("a = child helper 5\n", [("child", 0, "helper", 5)])
        self.tells("a = child helper arg\n", [("child", 0, "helper", None)])
        self.keeps("a = child helper 5\n", {"a": 0})

    def test_send(self):
        self.tells("send 3 key 4\n", [("send", 3, "key", 4)])
        self.tells("send none key none\n", [("send", None, "key", None)])
        self.tells("send -1 key ( 2 * 3 )\n", [("send", -1, "key", 6)])
        self.keeps("send 3 key 4\n", {})

    def test_a_letter_sent_is_none_of_its_own(self):
        run, told = begun("send 0 key 4\na = hear key\n")
        self.assertEqual(told, [("send", 0, "key", 4)])
        self.assertEqual(run.waits(), ("hear", "key"))

    def test_end(self):
        run, told = begun("end 5\n")
        self.assertEqual((told, run.waits()), ([("end", 5)], ("ended", 5)))
        run, told = begun("end none\n")
        self.assertEqual((told, run.waits()), ([("end", None)], ("ended", None)))

    def test_nothing_is_done_behind_an_end(self):
        run, told = begun("a = order w 1\nend 5\nb = order w 2\n")
        self.assertEqual(told, [("order", 0, "w", 1), ("end", 5)])

    def test_an_end_within_blocks(self):
        run, told = begun("while 1\nif 1\nend 5\ndone\nsend 1 a 1\ndone\nsend 2 a 2\n")
        self.assertEqual((told, run.waits()), ([("end", 5)], ("ended", 5)))

    def test_commands_in_order(self):
        self.tells("a = order w 1\nb = timer 2\nsend a k b\nc = child p 3\ndrop a\nd = order w 4\n",
                   [("order", 0, "w", 1), ("timer", 1, 2), ("send", 0, "k", 1), ("child", 2, "p", 3), ("drop", 0),
                    ("order", 3, "w", 4)])

    def test_worths_are_told_no_truths(self):
        _, told = begun("send ( 1 < 2 ) k not 1\nend ( 1 = 1 )\n")
        self.assertEqual(told, [("send", 1, "k", 0), ("end", 1)])
        self.assertEqual([type(worth) for worth in (told[0][1], told[0][3], told[1][1])], [int, int, int])

    def test_what_sayings_tell(self):
        self.keeps("a = ( arg * 2 )\nb = now\nc = gone\nd = answer 0\ne = not none\n", {"a": 10, "b": 77, "e": 1},
                   arg=5, moment=77)
        self.keeps("a = now\n", {"a": GREATEST}, moment=LAST_MOMENT)
        self.keeps("a = ( 1000000000 + 1 )\n", {"a": GREATEST})


class Tickets(Runs):
    def test_numbered_as_they_are_made(self):
        self.keeps("a = order w 1\nb = timer 1\nc = child p 1\nd = order w 1\n", {"a": 0, "b": 1, "c": 2, "d": 3})

    def test_one_name_gets_the_last(self):
        self.keeps("a = order w 1\na = order w 1\n", {"a": 1})

    def test_dropped_numbers_are_not_used_again(self):
        self.tells("a = order w 1\ndrop a\nb = order w 2\n",
                   [("order", 0, "w", 1), ("drop", 0), ("order", 1, "w", 2)])

    def test_numbers_go_on_at_later_happenings(self):
        run, _ = begun("while 1\na = order w arg\nb = wait a\ndone\n", arg=3)
        for k in range(5):
            self.assertEqual(run.open_tickets(), [k])
            self.assertEqual(run.take(("done", 0, k, None)), [("order", k + 1, "w", 3)])

    def test_open_ones_are_told_rising(self):
        run, _ = begun("a = order w 1\nb = timer 1\nc = child p 1\nd = order w 1\nh = hear k\n")
        self.assertEqual(run.open_tickets(), [0, 1, 2, 3])
        run.take(("done", 0, 1, None))
        self.assertEqual(run.open_tickets(), [0, 2, 3])
        run.take(("done", 0, 0, None))
        run.take(("done", 0, 3, None))
        self.assertEqual(run.open_tickets(), [2])

    def test_more_than_ten(self):
        run, _ = begun("while ( a < 11 )\na = order w 1\ndone\nh = hear k\n")
        self.assertEqual(run.open_tickets(), list(range(12)))

    def test_what_sayings_tell_is_looked_at_ahead(self):
        self.tells("a = 9\na = order w a\n", [("order", 0, "w", 9)])
        self.tells("a = 9\na = timer a\n", [("timer", 0, 9)])
        self.tells("a = 9\na = child p a\n", [("child", 0, "p", 9)])
        self.tells("a = order w a\na = order w a\n", [("order", 0, "w", None), ("order", 1, "w", 0)])
        self.keeps("a = 9\na = ( a + 1 )\n", {"a": 10})


class Dues(Runs):
    def due(self, word, moment=0, arg=None):
        _, told = begun("a = timer " + word + "\n", arg, moment)
        return told[0][2]

    def test_now_and_the_worth_more(self):
        self.assertEqual(self.due("0"), 0)
        self.assertEqual(self.due("7"), 7)
        self.assertEqual(self.due("7", 100), 107)
        self.assertEqual(self.due("0", 100), 100)
        self.assertEqual(self.due("1000000000", 100), GREATEST + 100)

    def test_of_a_worth_below_0(self):
        self.assertEqual(self.due("-1", 100), 100)
        self.assertEqual(self.due("-1000000000", 100), 100)
        self.assertEqual(self.due("-1"), 0)

    def test_of_none(self):
        self.assertEqual(self.due("none", 100), 100)
        self.assertEqual(self.due("gone", 100), 100)
        self.assertEqual(self.due("none"), 0)

    def test_beyond_the_last_moment(self):
        self.assertEqual(self.due("1", LAST_MOMENT), LAST_MOMENT)
        self.assertEqual(self.due("none", LAST_MOMENT), LAST_MOMENT)
        self.assertEqual(self.due("1", LAST_MOMENT - 1), LAST_MOMENT)
        self.assertEqual(self.due("2", LAST_MOMENT - 1), LAST_MOMENT)
        self.assertEqual(self.due("1", LAST_MOMENT - 2), LAST_MOMENT - 1)
        self.assertEqual(self.due("1000000000", LAST_MOMENT - GREATEST), LAST_MOMENT)
        self.assertEqual(self.due("1000000000", LAST_MOMENT - GREATEST + 1), LAST_MOMENT)
        self.assertEqual(self.due("1000000000", LAST_MOMENT - GREATEST - 1), LAST_MOMENT - 1)

    def test_the_moment_itself_counts_where_it_is_beyond_the_worths(self):
        self.assertEqual(self.due("5", GREATEST + 1), GREATEST + 6)
        self.assertEqual(self.due("5", 10 ** 11), 10 ** 11 + 5)
        self.assertEqual(self.due("now", 10 ** 11), 10 ** 11 + GREATEST)

    def test_by_the_greatest_moment_taken(self):
        run, _ = begun("while 1\na = hear k\nt = timer a\ndone\n", moment=50)
        self.assertEqual(run.take(("letter", 70, "k", 5)), [("timer", 0, 75)])
        self.assertEqual(run.take(("letter", 60, "k", 5)), [("timer", 1, 75)])
        self.assertEqual(run.take(("letter", 71, "k", None)), [("timer", 2, 71)])


class Drops(Runs):
    def test_of_an_open_ticket(self):
        run, told = begun("a = order w 1\nb = order w 2\ndrop a\nh = hear k\n")
        self.assertEqual(told[2:], [("drop", 0)])
        self.assertEqual(run.open_tickets(), [1])
        self.assertEqual(run.state()[5:8], (2, (1,), ()))

    def test_of_timers_and_children(self):
        _, told = begun("a = timer 1\nb = child p 1\ndrop b\ndrop a\nh = hear k\n")
        self.assertEqual(told[2:], [("drop", 1), ("drop", 0)])

    def test_of_one_dropped_already(self):
        self.tells("a = order w 1\ndrop a\ndrop a\n", [("order", 0, "w", 1), ("drop", 0)])

    def test_of_one_done(self):
        run, _ = begun("a = order w 1\nb = wait a\ndrop a\nh = hear k\n")
        self.assertEqual(run.take(("done", 0, 0, 5)), [])
        self.assertEqual(run.state()[6:8], ((), ((0, 5),)))

    def test_of_no_ticket(self):
        self.tells("drop 0\n", [])
        for word in ("none", "1", "-1", "1000000000", "gone"):
            self.tells("a = order w 1\ndrop " + word + "\n", [("order", 0, "w", 1)])

    def test_a_done_of_a_dropped_one_is_passed_over(self):
        run, _ = begun("a = order w 1\ndrop a\nh = hear k\n")
        before = run.state()
        self.assertEqual(run.take(("done", 99, 0, 5)), [])
        self.assertEqual(run.state(), before)

    def test_a_dropped_one_has_no_answer(self):
        self.keeps("a = order w 1\ndrop a\nb = ( answer a = none )\n", {"a": 0, "b": 1})


class Waits(Runs):
    def test_for_an_open_ticket(self):
        run, told = begun("a = order w 1\nb = wait a\nend answer b\n")
        self.assertEqual(told, [("order", 0, "w", 1)])
        self.assertEqual(run.waits(), ("wait", (0,)))
        self.assertEqual(run.take(("done", 5, 0, 42)), [("end", 42)])

    def test_for_one_of_several_open_ones(self):
        for first in (0, 1, 2):
            run, _ = begun("a = order w 1\nb = order w 1\nc = order w 1\nd = wait c a b\nh = hear k\n")
            self.assertEqual(run.waits(), ("wait", (0, 1, 2)))
            self.assertEqual(run.take(("done", 0, first, None)), [])
            self.assertEqual(run.waits(), ("hear", "k"))
            self.assertEqual(names_of(run)["d"], first)
            self.assertEqual(run.open_tickets(), [k for k in (0, 1, 2) if k != first])

    def test_those_that_are_done_and_not_waited_for(self):
        run, _ = begun("a = order w 1\nb = order w 1\nc = wait b\nd = wait a\nend answer d\n")
        self.assertEqual(run.take(("done", 0, 0, 7)), [])
        self.assertEqual(run.waits(), ("wait", (1,)))
        self.assertEqual(run.open_tickets(), [1])
        self.assertEqual(run.take(("done", 0, 1, 8)), [("end", 7)])

    def test_letters_do_not_wake_it(self):
        run, _ = begun("a = order w 1\nb = wait a\nc = hear k\nend c\n")
        self.assertEqual(run.take(("letter", 0, "k", 5)), [])
        self.assertEqual(run.waits(), ("wait", (0,)))
        self.assertEqual(run.take(("done", 0, 0, 1)), [("end", 5)])

    def test_a_done_ticket_goes_ahead_of_an_open_one(self):
        run, _ = begun("a = order w 1\nb = order w 1\nc = wait b\nd = wait a b\nend d\n")
        self.assertEqual(run.take(("done", 0, 1, None)), [("end", 1)])

    def test_the_one_done_first_by_the_row(self):
        text = "a = order w 1\nb = order w 1\nc = order w 1\nh = hear k\nd = wait a b c\nend d\n"
        for order in ((0, 1, 2), (2, 1, 0), (1, 0, 2), (2, 0, 1)):
            run, _ = begun(text)
            for k, ticket in enumerate(order):
                # Moments go back: the row counts, not the moments.
                self.assertEqual(run.take(("done", 100 - k, ticket, ticket)), [])
            self.assertEqual(run.take(("letter", 0, "k", None)), [("end", order[0])])

    def test_the_one_done_first_of_those_that_it_names(self):
        run, _ = begun("a = order w 1\nb = order w 1\nc = order w 1\nh = hear k\nd = wait a b\nend d\n")
        for ticket in (2, 1, 0):
            run.take(("done", 0, ticket, None))
        self.assertEqual(run.take(("letter", 0, "k", None)), [("end", 1)])

    def test_a_done_one_may_be_waited_for_again(self):
        run, _ = begun("a = order w 1\nb = wait a\nc = wait a\nd = wait a a\nend ( ( b + c ) + d )\n")
        self.assertEqual(run.take(("done", 0, 0, 9)), [("end", 0)])

    def test_other_worths_give_none(self):
        for words in ("none", "5", "-1", "none 5 -1 1000000000", "gone", "0"):
            self.keeps("b = 8\nb = wait " + words + "\n", {})

    def test_a_dropped_one_gives_none(self):
        self.keeps("a = order w 1\ndrop a\nb = 8\nb = wait a\n", {"a": 0})

    def test_other_worths_beside_an_open_one_are_passed_by(self):
        run, _ = begun("a = order w 1\nb = order w 1\ndrop a\nc = wait none a 7 b\n")
        self.assertEqual(run.waits(), ("wait", (1,)))

    def test_the_same_ticket_twice(self):
        run, _ = begun("a = order w 1\nb = order w 1\nc = wait b a b b\nend c\n")
        self.assertEqual(run.waits(), ("wait", (0, 1)))
        self.assertEqual(run.take(("done", 0, 1, None)), [("end", 1)])
        run, _ = begun("a = order w 1\nc = wait a a\nend c\n")
        self.assertEqual(run.waits(), ("wait", (0,)))
        self.assertEqual(run.take(("done", 0, 0, None)), [("end", 0)])

    def test_it_looks_where_it_is_come_to(self):
        # The name itself stands in its sayings; b is none of a ticket's number when it is looked at.
        run, _ = begun("b = order w 1\nb = wait b\nend ( b = 0 )\n")
        self.assertEqual(run.waits(), ("wait", (0,)))
        self.assertEqual(run.take(("done", 3, 0, 5)), [("end", 1)])

    def test_the_name_keeps_what_it_had_till_then(self):
        run, _ = begun("a = order w 1\nb = 8\nb = wait a\nh = hear k\n")
        self.assertEqual(names_of(run), {"a": 0, "b": 8})
        run.take(("done", 0, 0, 5))
        self.assertEqual(names_of(run), {"a": 0, "b": 0})

    def test_sayings_that_reckon_tickets(self):
        run, _ = begun("a = order w 1\nb = order w 1\nc = wait ( a + 1 )\nend c\n")
        self.assertEqual(run.waits(), ("wait", (1,)))

    def test_a_wait_in_a_row(self):
        run, _ = begun("a = timer 1\nb = timer 2\nc = wait a b\nd = wait b\nend ( c - d )\n")
        self.assertEqual(run.take(("done", 1, 0, None)), [])
        self.assertEqual(run.waits(), ("wait", (1,)))
        self.assertEqual(run.take(("done", 2, 1, None)), [("end", -1)])

    def test_done_with_none(self):
        run, _ = begun("a = order w 1\nb = wait a\nend ( answer a = none )\n")
        self.assertEqual(run.take(("done", 0, 0, None)), [("end", 1)])

    def test_five_sayings_somewhat_beyond_the_bounds(self):
        run = Run((("order", "a", "w", ("arg",)), ("wait", "b", (("name", "a"),) * 5)))
        run.take(("begin", 0, None))
        self.assertEqual(run.waits(), ("wait", (0,)))


class Hears(Runs):
    def test_without_a_letter_it_waits(self):
        run, told = begun("a = hear k\nend a\n")
        self.assertEqual((told, run.waits()), ([], ("hear", "k")))
        self.assertEqual(run.take(("letter", 0, "k", 5)), [("end", 5)])

    def test_other_keys_do_not_wake_it(self):
        run, _ = begun("a = hear k\nb = hear l\nend ( ( a * 10 ) + b )\n")
        self.assertEqual(run.take(("letter", 0, "l", 5)), [])
        self.assertEqual(run.waits(), ("hear", "k"))
        self.assertEqual(run.take(("letter", 0, "k", 6)), [("end", 65)])

    def test_the_first_letter_of_its_key(self):
        run, _ = begun("a = hear k\nb = hear l\nc = hear l\nd = hear l\nsend b k c\nend d\n")
        for key, worth in (("l", 1), ("m", 9), ("l", 2), ("l", 3), ("l", 4)):
            self.assertEqual(run.take(("letter", 0, key, worth)), [])
        self.assertEqual(run.take(("letter", 0, "k", None)), [("send", 1, "k", 2), ("end", 3)])

    def test_by_the_row_not_by_moments(self):
        run, _ = begun("a = hear k\nb = hear l\nend b\n")
        run.take(("letter", 9, "l", 1))
        run.take(("letter", 3, "l", 2))
        self.assertEqual(run.take(("letter", 0, "k", None)), [("end", 1)])

    def test_a_letter_is_taken_once(self):
        run, _ = begun("a = hear k\nb = hear k\nend b\n")
        self.assertEqual(run.take(("letter", 0, "k", 1)), [])
        self.assertEqual(run.waits(), ("hear", "k"))
        self.assertEqual(run.take(("letter", 0, "k", 2)), [("end", 2)])

    def test_a_letter_of_none(self):
        run, _ = begun("a = 5\na = hear k\nb = hear l\n")
        self.assertEqual(run.take(("letter", 0, "k", None)), [])
        self.assertEqual(names_of(run), {})
        self.assertEqual(run.waits(), ("hear", "l"))
        run, _ = begun("a = 5\nx = hear x\na = hear k\nb = hear l\n")
        run.take(("letter", 0, "k", None))
        run.take(("letter", 0, "x", None))
        self.assertEqual((names_of(run), run.waits(), run.state()[8]), ({}, ("hear", "l"), ()))

    def test_dones_do_not_wake_it(self):
        run, _ = begun("t = order w 1\na = hear k\nend answer t\n")
        self.assertEqual(run.take(("done", 0, 0, 5)), [])
        self.assertEqual(run.waits(), ("hear", "k"))
        self.assertEqual(run.open_tickets(), [])
        self.assertEqual(run.take(("letter", 0, "k", None)), [("end", 5)])

    def test_keys_called_like_kinds(self):
        run, _ = begun("a = hear number\nend a\n")
        self.assertEqual(run.take(("letter", 0, "begin", 5)), [])
        self.assertEqual(run.take(("letter", 0, "number", 6)), [("end", 6)])


class Blocks(Runs):
    def test_which_worths_are_true(self):
        for arg, block in ((None, 2), (0, 2), (1, 1), (-1, 1), (2, 1), (GREATEST, 1), (-GREATEST, 1)):
            self.tells("if arg\nsend 1 k arg\nelse\nsend 2 k arg\ndone\n", [("send", block, "k", arg)], arg=arg)
            _, told = begun("while arg\nend 1\ndone\nend 2\n", arg)
            self.assertEqual(told, [("end", block)])

    def test_an_if_without_second_block(self):
        self.tells("if arg\nsend 1 k 1\ndone\nsend 2 k 2\n", [("send", 2, "k", 2)], arg=0)
        self.tells("if arg\nsend 1 k 1\ndone\nsend 2 k 2\n", [("send", 1, "k", 1), ("send", 2, "k", 2)], arg=1)

    def test_an_if_without_first_block(self):
        self.tells("if arg\nelse\nsend 1 k 1\ndone\nsend 2 k 2\n", [("send", 2, "k", 2)], arg=1)
        self.tells("if arg\nelse\nsend 1 k 1\ndone\nsend 2 k 2\n", [("send", 1, "k", 1), ("send", 2, "k", 2)])

    def test_blocks_of_none(self):
        self.tells("if 1\ndone\nif 0\ndone\nwhile 0\ndone\nsend 2 k 2\n", [("send", 2, "k", 2)])

    def test_one_block_alone_is_done(self):
        self.tells("a = 1\nif a\na = 0\nelse\nsend 1 k 1\ndone\n", [])
        self.tells("if a\nsend 1 k 1\nelse\na = 1\ndone\n", [])

    def test_while(self):
        self.tells("a = 3\nwhile a\nsend a k 0\na = ( a - 1 )\ndone\nsend 9 k 9\n",
                   [("send", 3, "k", 0), ("send", 2, "k", 0), ("send", 1, "k", 0), ("send", 9, "k", 9)])

    def test_a_while_is_looked_at_behind_its_block_alone(self):
        self.tells("a = 1\nwhile a\na = 0\nsend 1 k 1\ndone\n", [("send", 1, "k", 1)])

    def test_while_not_at_all(self):
        self.tells("while 0\nsend 1 k 1\ndone\nwhile none\nsend 1 k 1\ndone\n", [])

    def test_within_one_another(self):
        text = ("while ( i < 3 )\nj = 0\nwhile ( j < 2 )\nif ( i = j )\nsend i same j\nelse\nif ( j < i )\n"
                "send i less j\ndone\ndone\nj = ( j + 1 )\ndone\ni = ( i + 1 )\ndone\n")
        self.tells(text, [("send", 1, "less", 0), ("send", 1, "same", 1), ("send", 2, "less", 0),
                          ("send", 2, "less", 1)])

    def test_five_deep(self):
        self.tells("if 1\nwhile not a\nif 0\nelse\nif 1\nwhile not a\na = 1\nsend 1 k 1\ndone\nsend 2 k 2\ndone\n"
                   "send 3 k 3\ndone\nsend 4 k 4\ndone\nsend 5 k 5\ndone\nsend 6 k 6\n",
                   [("send", k, "k", k) for k in (1, 2, 3, 4, 5, 6)])

    def test_somewhat_deeper(self):
        program = (("send", ("number", 1), "k", ("number", 1)),)
        for _ in range(9):
            program = (("if", ("number", 1), program, ()),)
        self.assertEqual(Run(program).take(("begin", 0, None)), [("send", 1, "k", 1), ("end", None)])

    def test_waiting_within_blocks(self):
        run, _ = begun("while 1\na = hear k\nif a\nb = hear l\nsend a m b\nelse\nend 7\ndone\ndone\n")
        for k in (1, 2, 3):
            self.assertEqual(run.take(("letter", 0, "k", k)), [])
            self.assertEqual(run.waits(), ("hear", "l"))
            self.assertEqual(run.take(("letter", 0, "l", k * k)), [("send", k, "m", k * k)])
            self.assertEqual(run.waits(), ("hear", "k"))
        self.assertEqual(run.take(("letter", 0, "k", 0)), [("end", 7)])

    def test_a_wait_last_in_its_blocks(self):
        run, _ = begun("if 1\nif 0\nelse\na = hear k\ndone\ndone\n")
        self.assertEqual(run.waits(), ("hear", "k"))
        self.assertEqual(run.take(("letter", 0, "k", 1)), [("end", None)])


class TheEnd(Runs):
    def test_behind_the_last_statement(self):
        run, told = begun("a = order w 1\n")
        self.assertEqual(told, [("order", 0, "w", 1), ("end", None)])
        self.assertEqual((run.waits(), run.state(), run.open_tickets()), (("ended", None), ("ended", None), []))

    def test_no_ticket_is_open_then(self):
        run, told = begun("a = order w 1\nb = timer 1\nend 3\n")
        self.assertEqual(told[2:], [("end", 3)])
        self.assertEqual(run.open_tickets(), [])
        run, _ = begun("a = order w 1\nb = timer 1\nc = wait a\n")
        self.assertEqual(run.open_tickets(), [0, 1])
        self.assertEqual(run.take(("done", 0, 0, 1)), [("end", None)])
        self.assertEqual(run.open_tickets(), [])

    def test_everything_behind_it_is_passed_over(self):
        for text in ("a = order w 1\nend 3\n", "a = order w 1\nwhile 1\ndone\n"):
            run, _ = begun(text)
            before = (run.waits(), run.state(), run.open_tickets())
            for happening in (("begin", 5, 1), ("done", 5, 0, 1), ("done", 5, 1, 1), ("letter", 5, "k", 1)):
                self.assertEqual(run.take(happening), [])
                self.assertEqual((run.waits(), run.state(), run.open_tickets()), before)


class PassedOver(Runs):
    def unchanged(self, run, happening):
        before = (run.waits(), run.state(), run.open_tickets())
        self.assertEqual(run.take(happening), [])
        self.assertEqual((run.waits(), run.state(), run.open_tickets()), before)

    def test_ahead_of_the_first_begin(self):
        run = run_of("b = hear k\nend ( now + b )\n")
        self.assertEqual((run.waits(), run.state(), run.open_tickets()), (("new",), ("new",), []))
        for happening in (("done", 500, 0, 1), ("letter", 500, "k", 1), ("done", 500, -1, 1),
                          ("letter", LAST_MOMENT, "z", None)):
            self.unchanged(run, happening)
        self.assertEqual(run.take(("begin", 7, None)), [])
        self.assertEqual(run.state(), (("hear", "k"), (0,), None, 7, (), 0, (), (), ()))

    def test_a_begin_that_is_not_the_first(self):
        run, _ = begun("a = hear k\nend ( arg + now )\n", arg=3, moment=10)
        self.unchanged(run, ("begin", 99, 50))
        self.unchanged(run, ("begin", 10, 3))
        self.assertEqual(run.take(("letter", 10, "k", None)), [("end", 13)])

    def test_dones_of_tickets_that_are_not_open(self):
        run, _ = begun("a = order w 1\nb = order w 1\ndrop b\nc = hear k\n", moment=10)
        for ticket in (1, 2, 3, -1, -2, GREATEST, GREATEST + 1, 10 ** 40, -10 ** 40):
            self.unchanged(run, ("done", 99, ticket, 5))
        self.assertEqual(run.take(("done", 20, 0, 5)), [])
        self.assertEqual(run.state()[3], 20)
        self.unchanged(run, ("done", 99, 0, 6))
        self.assertEqual(run.state()[7], ((0, 5),))

    def test_dones_of_tickets_that_are_not_yet(self):
        run, _ = begun("a = hear k\nb = order w 1\nc = wait b\nend answer b\n")
        self.unchanged(run, ("done", 99, 0, 5))
        self.assertEqual(run.take(("letter", 1, "k", None)), [("order", 0, "w", 1)])
        self.assertEqual(run.take(("done", 2, 0, 6)), [("end", 6)])

    def test_what_it_does_not_wait_for_is_taken(self):
        run, _ = begun("a = order w 1\nb = order w 1\nc = wait a\n", moment=10)
        self.assertEqual(run.take(("done", 20, 1, 5)), [])
        self.assertEqual(run.take(("letter", 30, "k", 6)), [])
        self.assertEqual(run.state(), (("wait", (0,)), (2,), None, 30, (("a", 0), ("b", 1)), 2, (0,), ((1, 5),),
                                       (("k", (6,)),)))


class Moments(Runs):
    def test_now_is_the_greatest_taken(self):
        run, _ = begun("while 1\na = hear k\nsend 0 n now\ndone\n", moment=10)
        for moment, now in ((5, 10), (11, 11), (0, 11), (11, 11), (40, 40), (39, 40)):
            self.assertEqual(run.take(("letter", moment, "k", None)), [("send", 0, "n", now)])
            self.assertEqual(run.state()[3], now)

    def test_those_taken_and_no_more_count_too(self):
        run, _ = begun("t = order w 1\na = hear k\nend now\n", moment=10)
        run.take(("letter", 20, "l", None))
        self.assertEqual(run.state()[3], 20)
        run.take(("done", 30, 0, None))
        self.assertEqual(run.state()[3], 30)
        self.assertEqual(run.take(("letter", 0, "k", None)), [("end", 30)])

    def test_it_is_0_at_first(self):
        run, _ = begun("a = hear k\n")
        self.assertEqual(run.state()[3], 0)

    def test_beyond_the_worths(self):
        run, told = begun("send 0 k now\na = hear k\n", moment=LAST_MOMENT)
        self.assertEqual(told, [("send", 0, "k", GREATEST)])
        self.assertEqual(run.state()[3], LAST_MOMENT)


class AskersOwn(Runs):
    TEXT = "a = order w 1\nb = order w 1\nx = hear k\nc = wait a b\nd = hear k\nend d\n"

    def test_lists_told_are_new_each_time(self):
        run, told = begun(self.TEXT)
        lists = [told, run.open_tickets(), run.open_tickets(), run.take(("begin", 0, 0)), run.take(("begin", 0, 0)),
                 run.take(("letter", 0, "l", 0)), run.take(("done", 0, 9, 0))]
        self.assertEqual(len({id(one) for one in lists}), len(lists))

    def test_what_becomes_of_them_changes_nothing(self):
        run, told = begun(self.TEXT)
        other, same = begun(self.TEXT)
        for happening in (("letter", 0, "l", 1), ("letter", 0, "k", 1), ("done", 0, 9, 0), ("done", 0, 1, 1),
                          ("letter", 1, "l", 1), ("letter", 1, "k", 7), ("letter", 2, "k", 7)):
            told.append("mine")
            told.clear()
            tickets = run.open_tickets()
            tickets.append(77)
            tickets.pop(0)
            told = run.take(happening)
            self.assertEqual(told, other.take(happening))
            self.assertEqual(run.state(), other.state())
            self.assertEqual(run.open_tickets(), other.open_tickets())
        self.assertEqual(run.waits(), ("ended", 7))

    def test_nothing_done_later_changes_them(self):
        run, told = begun(self.TEXT)
        tickets, state, waits = run.open_tickets(), run.state(), run.waits()
        run.take(("letter", 0, "l", 1))
        run.take(("letter", 0, "k", 1))
        run.take(("done", 0, 1, 1))
        self.assertEqual(told, [("order", 0, "w", 1), ("order", 1, "w", 1)])
        self.assertEqual(tickets, [0, 1])
        self.assertEqual(waits, ("hear", "k"))
        self.assertEqual(state, (("hear", "k"), (2,), None, 0, (("a", 0), ("b", 1)), 2, (0, 1), (), ()))

    def test_runs_of_one_program_are_apart(self):
        program = read_program(self.TEXT)
        one, other = Run(program), Run(program)
        one.take(("begin", 5, 3))
        self.assertEqual(other.waits(), ("new",))
        other.take(("begin", 6, 4))
        one.take(("letter", 7, "l", 1))
        one.take(("done", 7, 0, 1))
        self.assertEqual(other.state(), (("hear", "k"), (2,), 4, 6, (("a", 0), ("b", 1)), 2, (0, 1), (), ()))

    def test_asking_changes_nothing(self):
        run, _ = begun(self.TEXT)
        for _ in range(3):
            self.assertEqual(run.waits(), ("hear", "k"))
            self.assertEqual(run.open_tickets(), [0, 1])
            self.assertEqual(run.state()[1], (2,))


if __name__ == "__main__":
    unittest.main()
