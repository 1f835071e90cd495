import copy
import inspect
import unittest

from outlast.changes import part_at
from outlast.logs import run_again
from outlast.partings import happenings_behind, parting_row
from outlast.readers import read_program


def parting(one, other, worths, keys, many):
    return parting_row(read_program(one), read_program(other), worths, keys, many)


def begin(worth):
    return ("begin", 0, worth)


def done(ticket, worth):
    return ("done", 0, ticket, worth)


def letter(key, worth):
    return ("letter", 0, key, worth)


class Told(unittest.TestCase):
    def told(self, one, other, worths, keys, many, what):
        self.assertEqual(parting(one, other, worths, keys, many), what)
        self.assertEqual(parting(other, one, worths, keys, many), what)

    def parts(self, one, other, worths, keys, row):
        # Just as soon as the row is allowed, and however many more are.
        for many in range(1, len(row) + 3):
            self.told(one, other, worths, keys, many, ("none",) if many < len(row) else ("parts", row))
        self.assertEqual(part_at(read_program(one), read_program(other), row)[0], len(row) - 1)

    def never(self, one, other, worths, keys, least, pairs):
        for many in range(1, least + 3):
            self.told(one, other, worths, keys, many, ("none",) if many < least else ("never", pairs))


class Interface(unittest.TestCase):
    def test_arguments(self):
        self.assertEqual(list(inspect.signature(parting_row).parameters), ["one", "other", "worths", "keys", "many"])

    def test_kinds(self):
        told = parting("end 1\n", "end 2\n", [1], [], 3)
        self.assertEqual([type(told)] + [type(part) for part in told], [tuple, str, list])
        self.assertIs(type(told[1][0]), tuple)
        told = parting("end 1\n", "end 1\n", [1], [], 3)
        self.assertEqual([type(told)] + [type(part) for part in told], [tuple, str, int])
        told = parting("end 1\n", "end 1\n", [1], [], 1)
        self.assertEqual([type(told)] + [type(part) for part in told], [tuple, str])


class Parts(Told):
    def test_at_the_begin(self):
        self.parts("end 1\n", "end 2\n", [7, 8], ["k"], [begin(7)])
        self.parts("a = hear k\n", "", [None], [], [begin(None)])
        self.parts("while 1\ndone\n", "a = hear k\n", [3], ["k"], [begin(3)])
        self.parts("a = order w arg\nb = hear k\n", "a = order w 1\nb = hear k\n", [2, 1], ["k"], [begin(2)])

    def test_the_begin_has_the_first_worth_alone(self):
        self.never("end ( arg = 2 )\n", "end 0\n", [1, 2], ["k"], 2, 1)
        self.parts("end ( arg = 2 )\n", "end 0\n", [2, 1], ["k"], [begin(2)])

    def test_at_a_letter(self):
        self.parts("a = hear k\nend a\n", "a = hear k\nend 1\n", [1, 2], ["k"], [begin(1), letter("k", 2)])
        self.parts("a = hear k\nend a\n", "a = hear k\nend 1\n", [2, 1], ["k"], [begin(2), letter("k", 2)])
        self.parts("a = hear k\nend a\n", "a = hear k\nend none\n", [None, 0], ["k"], [begin(None), letter("k", 0)])

    def test_at_a_done(self):
        self.parts("a = order w 1\nb = wait a\nend answer b\n", "a = order w 1\nb = wait a\nend 1\n", [1, None, 5], [],
                   [begin(1), done(0, None)])

    def test_both_at_one_ticket(self):
        self.parts("a = order w 1\nb = order w 1\nc = wait b\nend c\n",
                   "a = order w 1\nb = order w 1\nc = wait b\nend 0\n",
                   [4, 5], ["k"], [begin(4), done(1, 4)])

    def test_tickets_rise(self):
        one = "a = order w 1\nb = timer 1\nc = child p 1\nd = wait c b a\nend 9\n"
        self.parts(one, one.replace("9", "8"), [4, 5], ["k"], [begin(4), done(0, 4)])
        other = one.replace("end 9", "end ( 9 - ( 0 < d ) )")
        self.parts(one, other, [4, 5], ["k"], [begin(4), done(1, 4)])
        other = one.replace("end 9", "end ( 9 + ( 1 < d ) )")
        self.parts(one, other, [4, 5], ["k"], [begin(4), done(2, 4)])

    def test_tickets_rise_by_number_not_by_figures(self):
        head = "".join(f"{name} = order w 1\n" for name in "abcdefghijkl")
        self.parts(head + "m = wait k c\nend 1\n", head + "m = wait k c\nend 2\n", [1], [], [begin(1), done(2, 1)])

    def test_dones_come_ahead_of_letters(self):
        # Either happening wakes one of them alone.
        one = "a = order w 1\nb = wait a\nend 1\n"
        other = "a = order w 1\nb = hear k\nend 1\n"
        self.parts(one, other, [4, 5], ["k"], [begin(4), done(0, 4)])

    def test_worths_in_their_order_ahead_of_the_next_ticket(self):
        one = "a = order w 1\nb = order w 1\nc = wait a b\nend 0\n"
        other = "a = order w 1\nb = order w 1\nc = wait a b\nend ( ( answer c = 6 ) + ( c = 1 ) )\n"
        self.parts(one, other, [4, 5, 6], ["k"], [begin(4), done(0, 6)])
        self.parts(one, other, [6, 5, 4], ["k"], [begin(6), done(0, 6)])
        self.parts(one, other, [4, 5], ["k"], [begin(4), done(1, 4)])
        self.parts(one, other, [5, 4], ["k"], [begin(5), done(1, 5)])

    def test_worths_in_their_order_ahead_of_the_next_key(self):
        one = "a = hear k\nend 1\n"
        other = "a = hear l\nend 1\n"
        self.parts(one, other, [2, 1], ["l", "k"], [begin(2), letter("l", 2)])
        self.parts(one, other, [2, 1], ["k", "l"], [begin(2), letter("k", 2)])
        self.parts(one, other, [2, 1], ["a", "l"], [begin(2), letter("l", 2)])
        other = "a = hear k\nend ( a = 1 )\n"
        self.parts(one, other, [1, 2, 3], ["l", "k"], [begin(1), letter("k", 2)])
        self.parts(one, other, [3, 2, 1], ["l", "k"], [begin(3), letter("k", 3)])

    def test_of_several_of_one_length_the_first(self):
        one = "a = hear k\nb = hear l\nend 0\n"
        other = "a = hear k\nb = hear l\nend ( ( a = 2 ) + ( b = 2 ) )\n"
        self.parts(one, other, [1, 2], ["k", "l"], [begin(1), letter("k", 1), letter("l", 2)])
        self.parts(one, other, [1, 2], ["l", "k"], [begin(1), letter("l", 1), letter("k", 2)])
        self.parts(one, other, [2, 1], ["k", "l"], [begin(2), letter("k", 2), letter("l", 2)])

    def test_the_shortest_though_a_longer_one_comes_first(self):
        one = "a = order w 1\nb = hear k\nend ( 1 + answer a )\n"
        other = "a = order w 1\nb = hear k\nend ( 1 + ( answer a = 1 ) )\n"
        self.parts(one, other, [2, 1], ["k"], [begin(2), done(0, 2), letter("k", 2)])
        other = "a = order w 1\nb = hear k\nend not answer a\n"
        self.parts(one, other, [2, 1], ["k"], [begin(2), done(0, 2), letter("k", 2)])
        other = "a = order w 1\nb = hear k\nend ( 3 * answer a )\n"
        self.parts(one, other, [2, 1], ["k"], [begin(2), letter("k", 2)])

    def test_a_row_of_several(self):
        lock = ("n = 0\nwhile 1\na = hear k\nif ( a = ( n + 1 ) )\nn = ( n + 1 )\nelse\nn = 0\ndone\nif ( n = 3 )\n"
                "send 0 s 1\ndone\ndone\n")
        other = lock.replace("send 0 s 1", "send 0 s 2")
        row = [begin(3), letter("k", 1), letter("k", 2), letter("k", 3)]
        self.parts(lock, other, [3, 2, 1], ["k"], row)

    def test_letters_that_lie_there(self):
        one = "a = order w 1\nb = wait a\nc = hear k\nd = hear k\nend c\n"
        other = "a = order w 1\nb = wait a\nc = hear k\nd = hear k\nend d\n"
        self.parts(one, other, [1, 2], ["k"], [begin(1), done(0, 1), letter("k", 1), letter("k", 2)])
        one = one.replace("c = hear k\n", "c = hear k\nif ( c = 2 )\nend 5\ndone\n")
        self.parts(one, other, [1, 2], ["k"], [begin(1), done(0, 1), letter("k", 2)])

    def test_the_order_of_dones(self):
        one = "a = order w 1\nb = order w 1\nc = hear k\nd = wait a b\nend d\n"
        other = "a = order w 1\nb = order w 1\nc = hear k\nd = wait a\nend d\n"
        self.parts(one, other, [3], ["k"], [begin(3), done(1, 3), letter("k", 3)])
        other = ("a = order w 1\nb = order w 1\nc = hear k\nd = wait a b\nif ( ( answer a + answer b ) = 6 )\nd = 0\n"
                 "done\nend d\n")
        self.parts(one, other, [3], ["k"], [begin(3), done(1, 3), done(0, 3), letter("k", 3)])

    def test_tickets_that_are_made_later(self):
        one = "a = order w 1\nwhile 1\nb = wait a\na = order w answer b\nif ( a = 3 )\nend 1\ndone\ndone\n"
        self.parts(one, one.replace("end 1", "end 2"), [1], [], [begin(1), done(0, 1), done(1, 1), done(2, 1)])

    def test_dropped_tickets_are_done_no_more(self):
        one = "a = order w 1\nb = order w 1\ndrop a\nc = wait b\nend 1\n"
        self.parts(one, one.replace("end 1", "end 2"), [1], [], [begin(1), done(1, 1)])

    def test_at_moment_nought(self):
        one = "t = timer 5\nb = wait t\nend now\n"
        self.never(one, one.replace("now", "0"), [1, None], [], 3, 2)

    def test_worn_behind_a_letter(self):
        one = "a = hear k\nwhile ( a = 2 )\ndone\nend 1\n"
        self.parts(one, "a = hear k\nend 1\n", [1, 2], ["k"], [begin(1), letter("k", 2)])


class Places(unittest.TestCase):
    """What may stand behind a row: by the states of both runs."""

    def test_dones_of_what_is_open_for_either(self):
        one = run_again(read_program("a = order w 1\nb = order w 1\nc = hear k\n"), [begin(0), done(0, 1)])[0].state()
        other = run_again(read_program("a = timer 1\nb = timer 1\nc = timer 1\ndrop b\nd = hear k\n"),
                          [begin(0)])[0].state()
        dones = [done(ticket, worth) for ticket in (0, 1, 2) for worth in (5, None)]
        for first, second in ((one, other), (other, one)):
            self.assertEqual(happenings_behind(first, second, [5, None], []), dones)
        self.assertEqual(happenings_behind(one, one, [5], []), [done(1, 5)])
        self.assertEqual(happenings_behind(other, other, [5], []), [done(0, 5), done(2, 5)])
        for ended in (("ended", 1), ("worn",)):
            self.assertEqual(happenings_behind(one, ended, [5], []), [done(1, 5)])
            self.assertEqual(happenings_behind(ended, other, [5], []), [done(0, 5), done(2, 5)])
            self.assertEqual(happenings_behind(ended, ended, [5], []), [])

    def test_letters_behind_dones(self):
        one = run_again(read_program("a = order w 1\nc = hear k\n"), [begin(0)])[0].state()
        self.assertEqual(happenings_behind(one, one, [2, 1], ["z", "a"]), [
            done(0, 2), done(0, 1), letter("z", 2), letter("z", 1), letter("a", 2), letter("a", 1)])
        self.assertEqual(happenings_behind(("worn",), ("worn",), [1], ["k"]), [letter("k", 1)])

    def test_the_begin_stands_alone(self):
        self.assertEqual(happenings_behind(("new",), ("new",), [3, 1], ["k"]), [begin(3)])


class Never(Told):
    def test_ended_at_the_begin(self):
        for text in ("", "end 5\n", "end arg\n"):
            self.never(text, text, [1, 2], [], 2, 1)
            self.never(text, text, [1, 2], ["k", "l"], 2, 1)
        self.never("a = 1\nend a\n", "end 1\n", [1], ["k"], 2, 1)

    def test_worn_at_the_begin(self):
        self.never("while 1\ndone\n", "while 1\na = 1\ndone\n", [1, 2], ["k"], 2, 1)

    def test_without_keys_who_hears_takes_nothing(self):
        self.never("a = hear k\nend 1\n", "a = hear k\nend 2\n", [1, 2], [], 2, 1)

    def test_a_hear(self):
        self.never("a = hear k\n", "b = hear k\nend none\n", [1], ["k"], 3, 2)
        self.never("a = hear k\n", "b = hear k\nend none\n", [1, 2, None], ["k"], 3, 2)
        self.never("a = hear k\nend a\n", "b = hear k\nend b\n", [1, 2, None], ["k"], 3, 4)

    def test_a_wait(self):
        self.never("a = order w 1\nb = wait a\n", "b = order w 1\nb = wait b\n", [1, 2], [], 3, 2)
        self.never("a = order w 1\nb = wait a\nend answer a\n", "a = order w 1\na = wait a\nend answer a\n",
                   [1, 2], [], 3, 3)

    def test_dones_for_which_it_does_not_wait(self):
        # Behind the begin, behind either done, by two worths; both orders of both dones by all worths.
        one = "a = order w 1\nb = order w 1\nc = hear k\n"
        self.never(one, one, [1, 2], [], 4, 1 + 4 + 8)

    def test_a_loop_comes_back(self):
        # The name that hears has nothing at first, then either worth.
        self.never("while 1\na = hear k\nsend 0 s a\ndone\n", "while 1\nb = hear k\nsend 0 s b\ndone\n", [1, 2], ["k"],
                   3, 3)
        self.never("while 1\na = hear k\na = none\ndone\n", "while 1\nb = hear k\nb = none\ndone\n", [1, 2], ["k"], 2,
                   1)

    def test_pairs_are_of_both(self):
        # The one keeps the last letter, the other one the last but one, too.
        one = "while 1\na = hear k\ndone\n"
        other = "while 1\nc = hear k\nb = a\na = c\ndone\n"
        self.never(one, other, [1, 2], ["k"], 4, 1 + 2 + 4)

    def test_ticket_by_ticket(self):
        one = "a = order w 1\nb = order w 1\nc = wait a\nc = wait b\nend 0\n"
        other = "a = order w 1\nb = order w 1\nc = wait b\nd = wait a\nend 0\n"
        # The begin, either one done, both done.
        self.never(one, other, [7], [], 4, 4)

    def test_no_longer_row_parts_them(self):
        one = read_program("while 1\na = hear k\nb = hear l\nsend a s b\ndone\n")
        other = read_program("while 1\nc = hear k\nd = hear l\nsend c s d\ndone\n")
        self.assertEqual(parting_row(one, other, [1, 2], ["m"], 5), ("none",))
        self.assertEqual(parting_row(one, other, [1, 2], [], 5), ("never", 1))
        one = read_program("n = 3\nwhile n\na = hear k\nn = ( n - 1 )\nsend 0 s n\ndone\n")
        other = read_program("n = 0\nwhile ( n < 3 )\na = hear k\nn = ( n + 1 )\nsend 0 s ( 3 - n )\ndone\n")
        self.assertEqual(parting_row(one, other, [1, 2], ["k"], 5), ("never", 1 + 2 + 2 + 1))
        self.assertEqual(parting_row(one, other, [1, 2], ["k"], 4), ("none",))
        self.assertEqual(parting_row(one, other, [1, 2], ["k"], 300), ("never", 6))
        rows = [[begin(1)]]
        for _ in range(6):
            rows = [row + [letter("k", worth)] for row in rows for worth in (1, 2)]
        for row in rows:
            self.assertIsNone(part_at(one, other, row))


class NoneOfBoth(Told):
    def test_letters_that_nobody_hears_pile_up(self):
        for many in (1, 2, 3, 6):
            self.told("a = hear k\nend 1\n", "a = hear k\nend 2\n", [1], ["l"], many, ("none",))

    def test_ever_more_tickets(self):
        text = "while 1\na = order w 1\nb = wait a\ndone\n"
        for many in (1, 2, 3, 20):
            self.told(text, text, [1], [], many, ("none",))

    def test_so_many_are_too_few(self):
        lock = "a = hear k\nb = hear k\nc = hear k\nend 1\n"
        other = lock.replace("end 1", "end c")
        for many in (1, 2, 3):
            self.told(lock, other, [1, 2], ["k"], many, ("none",))
        self.told(lock, other, [1, 2], ["k"], 4, ("parts", [begin(1), letter("k", 1), letter("k", 1), letter("k", 2)]))

    def test_one_happening_is_never_enough(self):
        for text in ("", "a = hear k\n", "while 1\ndone\n"):
            self.told(text, text, [1], [], 1, ("none",))


class Edges(Told):
    def test_worths_and_keys_told_twice(self):
        self.never("a = hear k\nend a\n", "b = hear k\nend b\n", [1, 1, 2, 1], ["k", "k"], 3, 3)
        self.parts("a = hear k\nend a\n", "a = hear k\nend 1\n", [1, 1, 2], ["k", "k"], [begin(1), letter("k", 2)])

    def test_none_is_a_worth_like_others(self):
        self.parts("a = hear k\nend ( a = none )\n", "a = hear k\nend not a\n", [0, None], ["k"],
                   [begin(0), letter("k", 0)])
        self.parts("a = hear k\nend ( a = none )\n", "a = hear k\nend 0\n", [0, None], ["k"],
                   [begin(0), letter("k", None)])

    def test_the_greatest_worths(self):
        greatest = 10 ** 9
        self.parts("a = hear k\nend ( a + 1 )\n", "a = hear k\nend a\n", [greatest, -greatest], ["k"],
                   [begin(greatest), letter("k", -greatest)])

    def test_what_was_handed_in_is_as_it_was(self):
        one = read_program("a = order w 1\nb = wait a\nc = hear k\nend c\n")
        other = read_program("a = order w 1\nb = wait a\nc = hear k\nend 1\n")
        handed = (one, other, [1, 2], ["k", "l"])
        before = copy.deepcopy(handed)
        for many in (1, 2, 3, 4):
            parting_row(*handed, many)
            self.assertEqual(handed, before)

    def test_what_is_told_is_new_each_time(self):
        one = read_program("a = hear k\nend a\n")
        other = read_program("a = hear k\nend 1\n")
        worths, keys = [1, 2], ["k"]
        told = parting_row(one, other, worths, keys, 4)
        again = parting_row(one, other, worths, keys, 4)
        self.assertIsNot(told[1], again[1])
        told[1].clear()
        worths.clear()
        keys.clear()
        self.assertEqual(again, ("parts", [begin(1), letter("k", 2)]))
        self.assertEqual(parting_row(one, other, [1, 2], ["k"], 4), again)

    def test_the_row_runs_as_told(self):
        one = read_program("a = hear k\nend a\n")
        other = read_program("a = hear k\nend 1\n")
        row = parting_row(one, other, [1, 2], ["k"], 4)[1]
        self.assertEqual(run_again(one, row)[1], [[], [("end", 2)]])
        self.assertEqual(run_again(other, row)[1], [[], [("end", 1)]])


if __name__ == "__main__":
    unittest.main()
