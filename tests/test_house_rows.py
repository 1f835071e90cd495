"""How a house takes happenings from its row, and does what commands its runs tell."""

import unittest

from outlast.house import House
from outlast.readers import read_program


def house_of(**texts):
    return House({name: read_program(text) for name, text in texts.items()})


class Orders(unittest.TestCase):
    def test_in_order(self):
        house = house_of(a="t = order w 1\nu = order v none\nt = order w -3\nk = hear k\n")
        orders = [("order", 0, 0, "w", 1), ("order", 0, 1, "v", None), ("order", 0, 2, "w", -3)]
        self.assertEqual(house.take(("start", 0, "a", 0)), orders)
        self.assertEqual(house.open_orders(), orders)

    def test_a_run_that_ended_at_the_same_happening(self):
        house = house_of(a="t = order w 1\nu = timer 5\nend 4\n")
        self.assertEqual(house.take(("start", 0, "a", 0)), [("order", 0, 0, "w", 1), ("ended", 0, 4)])
        self.assertEqual(house.open_orders(), [])
        self.assertEqual(house.open_timers(), [])
        self.assertIsNone(house.next_due())
        self.assertEqual(house.take(("answer", 0, 0, 0, 1)), [])
        self.assertEqual(house.take(("tick", 5)), [])
        self.assertEqual(house.taken(0), [("begin", 0, 0)])

    def test_a_run_that_dropped_it_at_the_same_happening(self):
        house = house_of(a="t = order w 1\nu = timer 5\ndrop t\ndrop u\nv = order w 2\nk = hear k\n")
        self.assertEqual(house.take(("start", 0, "a", 0)), [("order", 0, 0, "w", 1), ("order", 0, 2, "w", 2)])
        self.assertEqual(house.open_orders(), [("order", 0, 2, "w", 2)])
        self.assertEqual(house.open_timers(), [])
        self.assertEqual(house.take(("answer", 0, 0, 0, 1)), [])
        self.assertEqual(house.taken(0), [("begin", 0, 0)])

    def test_a_run_that_was_worn_at_the_same_happening(self):
        house = house_of(a="k = hear k\nt = order w 1\nu = timer 5\nwhile 1\ndone\n")
        house.take(("start", 0, "a", 0))
        self.assertEqual(house.take(("letter", 0, 0, "k", 0)), [("order", 0, 0, "w", 1), ("worn", 0)])
        self.assertEqual(house.open_orders(), [])
        self.assertEqual(house.open_timers(), [])

    def test_orders_and_timers_of_earlier_happenings_are_gone_at_the_end(self):
        house = house_of(a="t = order w 1\nu = timer 5\nk = hear k\n")
        house.take(("start", 0, "a", 0))
        house.take(("start", 0, "a", 0))
        self.assertEqual(house.take(("letter", 0, 0, "k", 0)), [("ended", 0, None)])
        self.assertEqual(house.open_orders(), [("order", 1, 0, "w", 1)])
        self.assertEqual(house.open_timers(), [(5, 1, 1)])

    def test_out_in_the_order_of_commands(self):
        house = house_of(a="send 9 k 1\nt = order w 1\nsend none l none\nu = order w 2\nend 5\n")
        self.assertEqual(house.take(("start", 0, "a", 0)), [
            ("lost", 0, 9, "k", 1), ("order", 0, 0, "w", 1), ("lost", 0, None, "l", None), ("order", 0, 1, "w", 2),
            ("ended", 0, 5)])


class Children(unittest.TestCase):
    def test_a_child_begins_and_its_end_is_done(self):
        house = house_of(a="c = child b ( arg + 1 )\nw = wait c\nend ( answer c * 10 )\n", b="end ( arg + 100 )\n")
        self.assertEqual(house.take(("start", 3, "a", 1)), [("ended", 1, 102), ("ended", 0, 1020)])
        self.assertEqual(house.taken(0), [("begin", 3, 1), ("done", 3, 0, 102)])
        self.assertEqual(house.taken(1), [("begin", 3, 2)])
        self.assertEqual(house.parent(1), (0, 0))
        self.assertEqual(house.program_of(1), "b")

    def test_the_end_of_a_later_input(self):
        house = house_of(a="x = order w 0\nc = child b 1\nw = wait c\nend answer c\n", b="k = hear k\nend k\n")
        house.take(("start", 3, "a", 1))
        self.assertEqual(house.take(("letter", 8, 1, "k", 6)), [("ended", 1, 6), ("ended", 0, 6)])
        self.assertEqual(house.taken(0)[1:], [("done", 8, 1, 6)])

    def test_behind_the_row(self):
        # Both children begin ahead of what the first of them begets.
        house = house_of(a="c = child b 1\nd = child b 2\nw = wait c\nw = wait d\n",
                         b="t = order w arg\nc = child d arg\nw = wait c\nend arg\n", d="t = order v arg\nend 7\n")
        self.assertEqual(house.take(("start", 0, "a", 0)), [
            ("order", 1, 0, "w", 1), ("order", 2, 0, "w", 2), ("order", 3, 0, "v", 1), ("ended", 3, 7),
            ("order", 4, 0, "v", 2), ("ended", 4, 7), ("ended", 1, 1), ("ended", 2, 2), ("ended", 0, None)])
        self.assertEqual([house.parent(run) for run in range(5)], [None, (0, 0), (0, 1), (1, 1), (2, 1)])
        self.assertEqual(house.taken(0), [("begin", 0, 0), ("done", 0, 0, 1), ("done", 0, 1, 2)])

    def test_numbers_are_used_up_as_the_commands_are_done(self):
        house = house_of(a="c = child b 1\nsend 1 k 3\nd = child b 2\nsend 2 k 4\n", b="k = hear k\nend ( arg + k )\n")
        self.assertEqual(house.take(("start", 0, "a", 0)), [("ended", 0, None), ("ended", 1, 4), ("ended", 2, 6)])

    def test_of_no_program(self):
        house = house_of(a="c = child no 1\nd = child b 2\nw = wait c\nend ( ( w = c ) + answer c )\n",
                         b="k = hear k\n")
        self.assertEqual(house.take(("start", 2, "a", 0)), [("ended", 0, 1)])
        self.assertEqual(house.taken(0), [("begin", 2, 0), ("done", 2, 0, None)])
        self.assertEqual(house.runs(), 2)
        self.assertEqual(house.program_of(1), "b")
        self.assertEqual(house.parent(1), (0, 1))

    def test_of_no_program_behind_the_row(self):
        house = house_of(a="d = child b 2\nc = child no 1\nw = wait c\nt = order w 1\n", b="t = order w 2\n")
        self.assertEqual(house.take(("start", 2, "a", 0)), [
            ("order", 1, 0, "w", 2), ("ended", 1, None), ("order", 0, 2, "w", 1), ("ended", 0, None)])

    def test_of_no_program_in_any_case(self):
        house = house_of(a="c = child no 1\nend 1\n", b="c = child no 1\ndrop c\nk = hear k\n",
                         d="c = child no 1\nwhile 1\ndone\n")
        self.assertEqual(house.take(("start", 2, "a", 0)), [("ended", 0, 1)])
        self.assertEqual(house.taken(0), [("begin", 2, 0), ("done", 2, 0, None)])
        self.assertEqual(house.waits(0), ("ended", 1))
        self.assertEqual(house.take(("start", 2, "b", 0)), [])
        self.assertEqual(house.taken(1), [("begin", 2, 0), ("done", 2, 0, None)])
        self.assertEqual(house.waits(1), ("hear", "k"))
        self.assertEqual(house.take(("start", 2, "d", 0)), [("worn", 2)])
        self.assertEqual(house.taken(2), [("begin", 2, 0), ("done", 2, 0, None)])

    def test_a_dropped_child_runs_on(self):
        house = house_of(a="c = child b 1\nk = hear k\ndrop c\nk = hear k\nk = hear k\n", b="k = hear k\nend k\n")
        house.take(("start", 0, "a", 0))
        house.take(("letter", 0, 0, "k", 0))
        self.assertEqual(house.waits(1), ("hear", "k"))
        self.assertEqual(house.take(("letter", 0, 1, "k", 5)), [("ended", 1, 5)])
        self.assertEqual(house.taken(0), [("begin", 0, 0), ("letter", 0, "k", 0)])

    def test_a_child_dropped_at_the_same_happening_begins(self):
        house = house_of(a="c = child b 1\ndrop c\nk = hear k\n", b="t = order w arg\nend arg\n")
        self.assertEqual(house.take(("start", 0, "a", 0)), [("order", 1, 0, "w", 1), ("ended", 1, 1)])
        self.assertEqual(house.taken(0), [("begin", 0, 0)])
        self.assertEqual(house.parent(1), (0, 0))

    def test_a_child_of_one_that_ended_runs_on(self):
        house = house_of(a="c = child b 1\nend 3\n", b="k = hear k\nend k\n")
        self.assertEqual(house.take(("start", 0, "a", 0)), [("ended", 0, 3)])
        self.assertEqual(house.waits(1), ("hear", "k"))
        self.assertEqual(house.take(("letter", 0, 1, "k", 5)), [("ended", 1, 5)])
        self.assertEqual(house.taken(0), [("begin", 0, 0)])
        self.assertEqual(house.parent(1), (0, 0))

    def test_a_child_of_one_that_is_worn_runs_on(self):
        house = house_of(a="c = child b 1\nwhile 1\ndone\n", b="end 2\n")
        self.assertEqual(house.take(("start", 0, "a", 0)), [("worn", 0), ("ended", 1, 2)])
        self.assertEqual(house.taken(0), [("begin", 0, 0)])

    def test_a_worn_child_leaves_the_ticket_open(self):
        house = house_of(a="c = child b 1\nw = wait c\n", b="while 1\ndone\n")
        self.assertEqual(house.take(("start", 0, "a", 0)), [("worn", 1)])
        self.assertEqual(house.waits(0), ("wait", (0,)))
        self.assertEqual(house.taken(0), [("begin", 0, 0)])
        self.assertEqual(house.take(("answer", 0, 0, 0, 1)), [])
        self.assertEqual(house.waits(0), ("wait", (0,)))

    def test_an_end_that_is_dropped_meanwhile_is_taken_and_passed_over(self):
        # The child's end and the letter stand in the row: at the letter the parent drops the ticket.
        house = house_of(a="c = child b 1\nk = hear k\ndrop c\nk = hear k\n", b="send 0 k 9\nend 2\n")
        self.assertEqual(house.take(("start", 0, "a", 0)), [("ended", 1, 2)])
        self.assertEqual(house.taken(0), [("begin", 0, 0), ("letter", 0, "k", 9), ("done", 0, 0, 2)])
        self.assertEqual(house.waits(0), ("hear", "k"))

    def test_an_end_whose_ticket_is_dropped_ahead_is_not_taken(self):
        house = house_of(a="c = child b 1\nk = hear k\ndrop c\nk = hear k\n", b="send 0 k 9\nk = hear k\nend 2\n")
        house.take(("start", 0, "a", 0))
        self.assertEqual(house.take(("letter", 0, 1, "k", 0)), [("ended", 1, 2)])
        self.assertEqual(house.taken(0), [("begin", 0, 0), ("letter", 0, "k", 9)])

    def test_a_child_of_its_own_program(self):
        house = house_of(a="if arg\nc = child a ( arg - 1 )\nw = wait c\nend ( answer c + 1 )\ndone\nend 0\n")
        self.assertEqual(house.take(("start", 0, "a", 3)), [("ended", 3, 0), ("ended", 2, 1), ("ended", 1, 2),
                                                            ("ended", 0, 3)])
        self.assertEqual([house.parent(run) for run in range(4)], [None, (0, 0), (1, 0), (2, 0)])


class Sends(unittest.TestCase):
    def test_to_another_run(self):
        house = house_of(a="k = hear k\nend k\n", b="send 0 k ( arg + 1 )\nt = order w 1\nx = hear x\n")
        house.take(("start", 0, "a", 0))
        self.assertEqual(house.take(("start", 4, "b", 1)), [("order", 1, 0, "w", 1), ("ended", 0, 2)])
        self.assertEqual(house.taken(0), [("begin", 0, 0), ("letter", 4, "k", 2)])

    def test_to_itself(self):
        house = house_of(a="send 0 k 7\nk = hear k\nend k\n")
        self.assertEqual(house.take(("start", 4, "a", 1)), [("ended", 0, 7)])
        self.assertEqual(house.taken(0), [("begin", 4, 1), ("letter", 4, "k", 7)])

    def test_to_itself_when_it_ended_at_the_same_happening(self):
        house = house_of(a="send 0 k 7\nend 1\n", b="send 1 k 7\nwhile 1\ndone\n")
        self.assertEqual(house.take(("start", 4, "a", 1)), [("lost", 0, 0, "k", 7), ("ended", 0, 1)])
        self.assertEqual(house.take(("start", 4, "b", 1)), [("lost", 1, 1, "k", 7), ("worn", 1)])
        self.assertEqual(house.taken(0), [("begin", 4, 1)])
        self.assertEqual(house.taken(1), [("begin", 4, 1)])

    def test_lost(self):
        house = house_of(a="send arg k 7\nx = hear x\n", b="")
        house.take(("start", 0, "b", None))
        for worth in (0, -1, -2, None, 10 ** 9, -10 ** 9, 50):
            self.assertEqual(house.take(("start", 0, "a", worth)), [("lost", house.runs() - 1, worth, "k", 7)])
        self.assertEqual([house.taken(run) for run in range(3)],
                         [[("begin", 0, None)], [("begin", 0, 0)], [("begin", 0, -1)]])
        self.assertEqual(house.take(("start", 0, "a", 7)), [])
        self.assertEqual(house.taken(7)[1:], [("letter", 0, "k", 7)])

    def test_lost_to_the_number_behind_the_last(self):
        house = house_of(a="send 1 k 7\nx = hear x\n")
        self.assertEqual(house.take(("start", 0, "a", 0)), [("lost", 0, 1, "k", 7)])
        self.assertEqual(house.take(("start", 0, "a", 0)), [])

    def test_lost_to_who_is_worn(self):
        house = house_of(a="send 0 k none\n", b="while 1\ndone\n")
        house.take(("start", 0, "b", None))
        self.assertEqual(house.take(("start", 0, "a", 0)), [("lost", 1, 0, "k", None), ("ended", 1, None)])
        self.assertEqual(house.taken(0), [("begin", 0, None)])

    def test_to_a_child_that_is_not_made_yet(self):
        house = house_of(a="send 1 k 1\nc = child b 0\nsend 1 k 2\nx = hear x\n", b="k = hear k\nend k\n")
        self.assertEqual(house.take(("start", 0, "a", 0)), [("lost", 0, 1, "k", 1), ("ended", 1, 2)])
        self.assertEqual(house.taken(1), [("begin", 0, 0), ("letter", 0, "k", 2)])

    def test_to_one_that_ends_meanwhile(self):
        # It goes on when the command is done, and is ended when the letter's turn comes.
        house = house_of(a="k = hear k\nend k\n", b="send 0 k 1\nsend 0 k 2\nx = hear x\n")
        house.take(("start", 0, "a", 0))
        self.assertEqual(house.take(("start", 0, "b", 0)), [("ended", 0, 1)])
        self.assertEqual(house.taken(0), [("begin", 0, 0), ("letter", 0, "k", 1), ("letter", 0, "k", 2)])
        self.assertEqual(house.waits(0), ("ended", 1))

    def test_letters_and_children_in_one_row(self):
        house = house_of(
            a="k = hear k\nt = order w k\nk = hear k\nt = order w k\nk = hear k\n",
            b="send 0 k 1\nc = child d 0\nsend 0 k 2\nx = hear x\n", d="t = order v 0\nsend 0 k 3\nx = hear x\n")
        house.take(("start", 0, "a", 0))
        self.assertEqual(house.take(("start", 0, "b", 0)), [
            ("order", 0, 0, "w", 1), ("order", 2, 0, "v", 0), ("order", 0, 1, "w", 2), ("ended", 0, None)])
        self.assertEqual(house.taken(0)[1:], [("letter", 0, "k", 1), ("letter", 0, "k", 2), ("letter", 0, "k", 3)])

    def test_what_a_letter_sets_off_follows_behind(self):
        house = house_of(a="k = hear k\nsend 1 k ( k + 1 )\nx = hear x\n",
                         b="k = hear k\nsend 2 k ( k + 1 )\nx = hear x\n", c="k = hear k\nend k\n")
        for name in ("a", "b", "c"):
            house.take(("start", 0, name, 0))
        self.assertEqual(house.take(("letter", 5, 0, "k", 1)), [("ended", 2, 3)])
        self.assertEqual(house.taken(2), [("begin", 0, 0), ("letter", 5, "k", 3)])


class Drops(unittest.TestCase):
    def test_an_order_and_a_timer_are_forgotten(self):
        house = house_of(a="t = order w 1\nu = timer 5\nv = order w 2\nx = timer 6\nk = hear k\n"
                           "drop t\ndrop x\nk = hear k\n")
        house.take(("start", 0, "a", 0))
        self.assertEqual(house.take(("letter", 0, 0, "k", 0)), [])
        self.assertEqual(house.open_orders(), [("order", 0, 2, "w", 2)])
        self.assertEqual(house.open_timers(), [(5, 0, 1)])
        self.assertEqual(house.take(("answer", 0, 0, 0, 9)), [])
        self.assertEqual(house.take(("tick", 9)), [])
        self.assertEqual(house.taken(0)[2:], [("done", 9, 1, None)])

    def test_the_same_ticket_of_another_run_stays(self):
        house = house_of(a="t = order w 1\nu = timer 5\nk = hear k\ndrop t\ndrop u\nk = hear k\n")
        house.take(("start", 0, "a", 0))
        house.take(("start", 0, "a", 0))
        house.take(("letter", 0, 1, "k", 0))
        self.assertEqual(house.open_orders(), [("order", 0, 0, "w", 1)])
        self.assertEqual(house.open_timers(), [(5, 0, 1)])


class Timers(unittest.TestCase):
    def test_by_due_then_run_then_ticket(self):
        text = "a = timer 5\nb = timer 3\nc = timer 5\nw = wait a\nt = order w 0\nk = hear k\n"
        house = house_of(a=text, b="t = timer 3\nw = wait t\nt = order v 0\nt = timer 5\nw = wait t\nt = order v 1\n")
        house.take(("start", 0, "a", 0))
        house.take(("start", 0, "a", 0))
        house.take(("start", 0, "b", 0))
        self.assertEqual(house.open_timers(), [(3, 0, 1), (3, 1, 1), (3, 2, 0), (5, 0, 0), (5, 0, 2), (5, 1, 0),
                                               (5, 1, 2)])
        self.assertEqual(house.take(("tick", 7)), [("order", 2, 1, "v", 0), ("order", 0, 3, "w", 0),
                                                   ("order", 1, 3, "w", 0)])
        self.assertEqual(house.taken(0)[1:], [("done", 7, 1, None), ("done", 7, 0, None), ("done", 7, 2, None)])
        self.assertEqual(house.open_timers(), [(12, 2, 2)])

    def test_a_lesser_due_of_a_later_run_goes_first(self):
        text = "t = timer arg\nw = wait t\nend arg\n"
        house = house_of(a=text)
        for worth in (9, 8, 10, 8):
            house.take(("start", 0, "a", worth))
        self.assertEqual(house.take(("tick", 9)), [("ended", 1, 8), ("ended", 3, 8), ("ended", 0, 9)])

    def test_numbers_not_words(self):
        house = house_of(a="t = timer arg\nw = wait t\nend arg\n")
        for worth in (100, 20, 3):
            house.take(("start", 0, "a", worth))
        self.assertEqual(house.open_timers(), [(3, 2, 0), (20, 1, 0), (100, 0, 0)])
        self.assertEqual(house.take(("tick", 100)), [("ended", 2, 3), ("ended", 1, 20), ("ended", 0, 100)])

    def test_those_that_are_set_meanwhile_ring_at_the_next_tick(self):
        house = house_of(a="while 1\nt = timer 0\nw = wait t\nu = order w now\ndone\n")
        house.take(("start", 0, "a", 0))
        self.assertEqual(house.take(("tick", 4)), [("order", 0, 1, "w", 4)])
        self.assertEqual(house.open_timers(), [(4, 0, 2)])
        self.assertEqual(house.take(("tick", 4)), [("order", 0, 3, "w", 4)])
        self.assertEqual(house.take(("tick", 1)), [("order", 0, 5, "w", 4)])
        self.assertEqual(house.taken(0)[1:], [("done", 4, 0, None), ("done", 4, 2, None), ("done", 4, 4, None)])

    def test_one_that_is_dropped_meanwhile_is_taken_and_passed_over(self):
        house = house_of(a="t = timer 1\nu = timer 2\nw = wait t\ndrop u\nk = hear k\n")
        house.take(("start", 0, "a", 0))
        self.assertEqual(house.take(("tick", 2)), [])
        self.assertEqual(house.taken(0), [("begin", 0, 0), ("done", 2, 0, None), ("done", 2, 1, None)])
        self.assertEqual(house.open_timers(), [])
        self.assertEqual(house.waits(0), ("hear", "k"))

    def test_one_whose_run_ends_meanwhile_is_taken_and_passed_over(self):
        house = house_of(a="t = timer 1\nu = timer 2\nw = wait t u\nend w\n")
        house.take(("start", 0, "a", 0))
        self.assertEqual(house.take(("tick", 2)), [("ended", 0, 0)])
        self.assertEqual(house.taken(0), [("begin", 0, 0), ("done", 2, 0, None), ("done", 2, 1, None)])

    def test_what_a_ring_sets_off_follows_behind_all_rings(self):
        house = house_of(a="t = timer 1\nw = wait t\nc = child b 0\nw = wait c\nt = order w 1\n",
                         b="t = order v 0\n")
        house.take(("start", 0, "a", 0))
        house.take(("start", 0, "a", 0))
        self.assertEqual(house.take(("tick", 1)), [
            ("order", 2, 0, "v", 0), ("ended", 2, None), ("order", 3, 0, "v", 0), ("ended", 3, None),
            ("order", 0, 2, "w", 1), ("ended", 0, None), ("order", 1, 2, "w", 1), ("ended", 1, None)])

    def test_each_rings_once(self):
        house = house_of(a="t = timer 1\nk = hear k\n")
        house.take(("start", 0, "a", 0))
        for moment in (1, 2, 3):
            house.take(("tick", moment))
        self.assertEqual(house.taken(0), [("begin", 0, 0), ("done", 1, 0, None)])


if __name__ == "__main__":
    unittest.main()
