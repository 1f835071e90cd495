"""The three hundred happenings of an input: what is taken, what is dropped, and what stays undone."""

import unittest

from outlast.house import House
from outlast.readers import read_program

# Writes to itself again and again: at each letter one more.
ECHO = "while 1\nsend 0 k 1\nk = hear k\ndone\n"
# Begets so many as arg tells, a hundred at most: then it would be worn.
BROOD = "n = arg\nwhile n\nc = child leaf n\nn = ( n - 1 )\ndone\nk = hear k\n"


def house_of(**texts):
    return House({name: read_program(text) for name, text in texts.items()})


def all_taken(house):
    return sum(len(house.taken(run)) for run in range(house.runs()))


class JustThreeHundred(unittest.TestCase):
    # Three children write to run 0; a run can send some hundred letters at a happening, not three.
    PARTS = {
        "ear": "x = hear x\n",
        "much": "n = arg\nwhile n\nsend 0 l n\nn = ( n - 1 )\ndone\nx = hear x\n",
        "root": "a = child much 99\nb = child much 99\nc = child much arg\nx = hear x\n",
    }

    def house(self):
        house = house_of(**self.PARTS)
        house.take(("start", 0, "ear", 0))
        return house

    def test_none_left(self):
        # 1 begin, 3 children, 99 + 99 letters, and 98 more: three hundred.
        house = self.house()
        self.assertEqual(house.take(("start", 0, "root", 98)), [])
        self.assertEqual(all_taken(house), 301)
        self.assertEqual(len(house.taken(0)), 297)

    def test_one_left(self):
        house = self.house()
        self.assertEqual(house.take(("start", 0, "root", 99)), [("spent",)])
        self.assertEqual(all_taken(house), 301)
        # The last letter of the last child is the dropped one.
        self.assertEqual(house.taken(0)[-1], ("letter", 0, "l", 2))

    def test_fewer(self):
        house = self.house()
        self.assertEqual(house.take(("start", 0, "root", 97)), [])
        self.assertEqual(all_taken(house), 300)

    def test_the_next_input_begins_anew(self):
        house = self.house()
        house.take(("start", 0, "root", 99))
        self.assertEqual(house.take(("letter", 3, 0, "l", 5)), [])
        self.assertEqual(all_taken(house), 302)
        self.assertEqual(house.taken(0)[-1], ("letter", 3, "l", 5))
        self.assertEqual(house.take(("start", 4, "root", 98)), [])
        self.assertEqual(all_taken(house), 602)
        self.assertEqual(house.take(("start", 4, "root", 99)), [("spent",)])
        self.assertEqual(all_taken(house), 902)


class MoreLeft(unittest.TestCase):
    def test_an_echo_without_end(self):
        house = house_of(a=ECHO)
        self.assertEqual(house.take(("start", 7, "a", 0)), [("spent",)])
        self.assertEqual(house.taken(0), [("begin", 7, 0)] + [("letter", 7, "k", 1)] * 299)
        self.assertEqual(house.waits(0), ("hear", "k"))
        # The dropped letter is gone; the next one from without is the next one taken.
        self.assertEqual(house.take(("tick", 8)), [])
        self.assertEqual(len(house.taken(0)), 300)
        self.assertEqual(house.take(("letter", 9, 0, "k", 4)), [("spent",)])
        self.assertEqual(house.taken(0)[300:], [("letter", 9, "k", 4)] + [("letter", 9, "k", 1)] * 299)

    def test_spent_is_told_last(self):
        house = house_of(a="while 1\nsend 0 k 1\nk = hear k\nt = order w k\ndone\n")
        told = house.take(("start", 0, "a", 0))
        self.assertEqual(told[:-1], [("order", 0, ticket, "w", 1) for ticket in range(299)])
        self.assertEqual(told[-1], ("spent",))
        self.assertEqual(house.open_orders(), told[:-1])

    def test_commands_of_the_last_happening_are_done(self):
        # At the three hundredth happening: an order, a timer, a child and a letter lost; the child's begin is dropped.
        house = house_of(
            a="n = 298\nwhile n\nsend 0 k n\nk = hear k\nn = ( n - 1 )\ndone\nsend 0 k 0\nk = hear k\n"
              "t = order w 5\nu = timer 6\nc = child b 7\nsend 9 l 8\nsend 1 l 3\nk = hear k\n", b="end arg\n")
        self.assertEqual(house.take(("start", 2, "a", 0)), [
            ("order", 0, 0, "w", 5), ("lost", 0, 9, "l", 8), ("spent",)])
        self.assertEqual(len(house.taken(0)), 300)
        self.assertEqual(house.open_orders(), [("order", 0, 0, "w", 5)])
        self.assertEqual(house.open_timers(), [(8, 0, 1)])
        self.assertEqual(house.runs(), 2)
        self.assertEqual(house.waits(1), ("new",))
        self.assertEqual(house.taken(1), [])

    def test_an_end_at_the_last_happening(self):
        house = house_of(a="n = 299\nwhile n\nsend 0 k n\nk = hear k\nn = ( n - 1 )\ndone\nend 5\n",
                         b="n = 299\nwhile n\nsend 1 k n\nk = hear k\nn = ( n - 1 )\ndone\nc = child no 1\nend 5\n")
        self.assertEqual(house.take(("start", 2, "a", 0)), [("ended", 0, 5)])
        self.assertEqual(house.take(("start", 2, "b", 0)), [("ended", 1, 5), ("spent",)])
        self.assertEqual(len(house.taken(0)), 300)
        self.assertEqual(len(house.taken(1)), 300)

    def test_passed_over_ones_count(self):
        # Letters to a run that ends at the first of them.
        house = house_of(a="k = hear k\n",
                         b="n = arg\nwhile n\nsend 0 k n\nn = ( n - 1 )\ndone\nx = hear x\n",
                         root="a = child b 99\nb = child b 99\nc = child b 99\nx = hear x\n")
        house.take(("start", 0, "a", 0))
        self.assertEqual(house.take(("start", 0, "root", 0)), [("ended", 0, None), ("spent",)])
        self.assertEqual(len(house.taken(0)), 297)
        self.assertEqual(all_taken(house), 301)


class BeginsDropped(unittest.TestCase):
    def brood(self):
        house = house_of(a=BROOD, root="a = child a 99\nb = child a 99\nc = child a 99\nd = child a 99\nk = hear k\n",
                         leaf="t = order w arg\nk = hear k\nend k\n")
        told = house.take(("start", 5, "root", 0))
        return (house, told)

    def test_what_is_taken_and_what_is_not(self):
        house, told = self.brood()
        # Root and four broods, of each 99 leaves: 5 + 396, of which three hundred begin.
        self.assertEqual(house.runs(), 401)
        self.assertEqual(told, [("order", run, 0, "w", 99 - (run - 5) % 99) for run in range(5, 300)] + [("spent",)])
        for run in range(300):
            self.assertEqual(len(house.taken(run)), 1)
        for run in range(300, 401):
            self.assertEqual(house.taken(run), [])
            self.assertEqual(house.waits(run), ("new",))
            self.assertEqual(house.program_of(run), "leaf")
            self.assertEqual(house.parent(run), (1 + (run - 5) // 99, (run - 5) % 99))

    def test_letters_to_one_are_taken_and_passed_over(self):
        house, told = self.brood()
        self.assertEqual(house.take(("letter", 6, 350, "k", 1)), [])
        self.assertEqual(house.taken(350), [("letter", 6, "k", 1)])
        self.assertEqual(house.waits(350), ("new",))
        self.assertEqual(house.take(("letter", 6, 401, "k", 1)), [])

    def test_answers_and_ticks_do_nothing_to_it(self):
        house, told = self.brood()
        self.assertEqual(house.take(("answer", 6, 350, 0, 1)), [])
        self.assertEqual(house.take(("tick", 6)), [])
        self.assertEqual(house.taken(350), [])
        self.assertEqual(len(house.open_orders()), 295)

    def test_sends_to_one_are_not_lost(self):
        house = house_of(a=ECHO, b="x = hear x\nc = child b 0\nsend 1 k 2\nx = hear x\n", d="send 2 k 3\nx = hear x\n",
                         e="n = 297\nwhile n\nsend 1 q n\nq = hear q\nn = ( n - 1 )\ndone\n"
                           "send 0 x 1\nsend 0 q 1\nsend 0 q 1\nsend 0 q 1\nx = hear x\n")
        house.take(("start", 0, "b", 0))
        # The begin, 297 letters to itself, the letter at which b begets, one more: the begin of run 2 is dropped.
        self.assertEqual(house.take(("start", 0, "e", 0)), [("spent",)])
        self.assertEqual(house.runs(), 3)
        self.assertEqual(house.taken(2), [])
        self.assertEqual(house.take(("start", 0, "d", 0)), [])
        self.assertEqual(house.taken(2), [("letter", 0, "k", 3)])
        self.assertEqual(house.waits(2), ("new",))

    def test_its_parent_waits_on(self):
        house = house_of(a="n = 298\nwhile n\nsend 0 k n\nk = hear k\nn = ( n - 1 )\ndone\n"
                           "c = child b 7\nsend 0 x 1\nx = hear x\nw = wait c\n", b="end arg\n")
        # Begin, 298 letters, then the child's begin as the last one taken; its end comes at no time.
        self.assertEqual(house.take(("start", 0, "a", 0)), [("ended", 1, 7), ("spent",)])
        self.assertEqual(house.waits(1), ("ended", 7))
        self.assertEqual(house.waits(0), ("hear", "x"))
        self.assertEqual(house.take(("letter", 0, 0, "x", 1)), [])
        self.assertEqual(house.waits(0), ("wait", (0,)))

    def test_a_child_of_no_program_whose_done_is_dropped(self):
        house = house_of(a="n = 299\nwhile n\nsend 0 k n\nk = hear k\nn = ( n - 1 )\ndone\n"
                           "c = child no 1\nw = wait c\n")
        self.assertEqual(house.take(("start", 0, "a", 0)), [("spent",)])
        self.assertEqual(house.waits(0), ("wait", (0,)))
        self.assertEqual(house.take(("tick", 1)), [])
        self.assertEqual(house.waits(0), ("wait", (0,)))


class RingsDropped(unittest.TestCase):
    def house(self, many):
        house = house_of(a="n = arg\nwhile n\nt = timer 0\nn = ( n - 1 )\ndone\nk = hear k\n")
        left = many
        while left:
            house.take(("start", 3, "a", min(90, left)))
            left -= min(90, left)
        self.assertEqual(len(house.open_timers()), many)
        return house

    def test_three_hundred(self):
        house = self.house(300)
        self.assertEqual(house.take(("tick", 3)), [])
        self.assertEqual(house.open_timers(), [])

    def test_one_more(self):
        house = self.house(301)
        self.assertEqual(house.take(("tick", 3)), [("spent",)])
        self.assertEqual(house.open_timers(), [(3, 3, 30)])
        self.assertEqual(house.next_due(), 3)
        self.assertEqual(house.taken(3)[-1], ("done", 3, 29, None))
        self.assertEqual(house.take(("tick", 0)), [])
        self.assertEqual(house.open_timers(), [])
        self.assertEqual(house.taken(3)[-1], ("done", 3, 30, None))

    def test_many_more(self):
        house = self.house(700)
        self.assertEqual(house.take(("tick", 3)), [("spent",)])
        self.assertEqual(len(house.open_timers()), 400)
        self.assertEqual(house.take(("tick", 3)), [("spent",)])
        self.assertEqual(len(house.open_timers()), 100)
        self.assertEqual(house.take(("tick", 3)), [])
        self.assertEqual(house.open_timers(), [])

    def test_what_rings_set_off_is_dropped_behind_them(self):
        house = house_of(a="n = 75\nwhile n\nt = timer 0\nn = ( n - 1 )\ndone\nw = wait 0\nc = child b 0\nk = hear k\n",
                         b="t = order w 0\n")
        for _ in range(4):
            house.take(("start", 0, "a", 0))
        self.assertEqual(house.take(("tick", 0)), [("spent",)])
        self.assertEqual(house.runs(), 8)
        self.assertEqual([house.waits(run) for run in range(4, 8)], [("new",)] * 4)


class RunsAway(unittest.TestCase):
    def test_children_of_children(self):
        house = house_of(a="while 1\nc = child a 0\ndone\n")
        told = house.take(("start", 0, "a", 0))
        self.assertEqual(told, [("worn", run) for run in range(300)] + [("spent",)])
        # Of three hundred statements each second one begets.
        self.assertEqual(house.runs(), 1 + 300 * 150)
        self.assertEqual(house.waits(300), ("new",))
        self.assertEqual(house.parent(45000), (299, 149))


if __name__ == "__main__":
    unittest.main()
