"""A house: its inputs, its moment, and what it tells of itself."""

import copy
import inspect
import unittest

from outlast.errors import NoRun, OutlastError
from outlast.house import House
from outlast.readers import read_program
from outlast.runs import Run

FAR = 10 ** 40 - 1


def programs(**texts):
    return {name: read_program(text) for name, text in texts.items()}


BAKE = "t = order bake arg\nw = wait t\nend answer t\n"
RING = "t = timer arg\nw = wait t\nend now\n"
EAR = "a = hear k\nb = hear k\nend ( a - b )\n"
BOTH = "t = order bake arg\nu = timer 60\nw = wait t u\nend w\n"
MANY = "a = order bake 1\nb = timer 5\nc = order brew 2\nd = child bake 3\ne = timer 3\nw = hear k\n"
DROP = "t = order bake arg\nu = timer 9\nk = hear k\ndrop t\ndrop u\nk = hear k\n"


class Interface(unittest.TestCase):
    def test_arguments(self):
        told = {"take": ["some"], "moment": [], "inputs": [], "runs": [], "program": ["name"], "program_of": ["run"],
                "waits": ["run"], "taken": ["run"], "open_orders": [], "open_timers": [], "next_due": [],
                "parent": ["run"]}
        house = House({})
        for name, arguments in told.items():
            self.assertEqual(list(inspect.signature(getattr(house, name)).parameters), arguments, name)
        self.assertEqual(list(inspect.signature(House).parameters), ["programs"])

    def test_kinds(self):
        house = House(programs(both=BOTH))
        self.assertIs(type(house.take(("start", 0, "both", 1))), list)
        self.assertIs(type(house.take(("tick", 0))), list)
        for told in (house.inputs(), house.taken(0), house.open_orders(), house.open_timers()):
            self.assertIs(type(told), list)
            self.assertTrue(all(type(part) is tuple for part in told))
        self.assertIs(type(house.moment()), int)
        self.assertIs(type(house.runs()), int)
        self.assertIs(type(house.waits(0)), tuple)
        self.assertIs(type(house.program_of(0)), str)
        self.assertIs(type(house.next_due()), int)

    def test_refusal_is_one_of_the_programs(self):
        with self.assertRaises(OutlastError):
            House({}).waits(0)

    def test_an_empty_house(self):
        house = House({})
        self.assertEqual(house.moment(), 0)
        self.assertEqual(house.inputs(), [])
        self.assertEqual(house.runs(), 0)
        self.assertEqual(house.open_orders(), [])
        self.assertEqual(house.open_timers(), [])
        self.assertIsNone(house.next_due())
        self.assertIsNone(house.program("bake"))


class Starts(unittest.TestCase):
    def test_a_start(self):
        house = House(programs(bake=BAKE))
        self.assertEqual(house.take(("start", 7, "bake", 3)), [("order", 0, 0, "bake", 3)])
        self.assertEqual(house.runs(), 1)
        self.assertEqual(house.taken(0), [("begin", 7, 3)])
        self.assertEqual(house.waits(0), ("wait", (0,)))

    def test_numbers_rise(self):
        house = House(programs(bake=BAKE, ear=EAR))
        for name in ("bake", "ear", "bake", "ear"):
            house.take(("start", 0, name, None))
        self.assertEqual([house.program_of(run) for run in range(4)], ["bake", "ear", "bake", "ear"])
        self.assertEqual(house.open_orders(), [("order", 0, 0, "bake", None), ("order", 2, 0, "bake", None)])

    def test_no_such_program(self):
        house = House(programs(bake=BAKE))
        self.assertEqual(house.take(("start", 5, "brew", 3)), [])
        self.assertEqual(house.runs(), 0)
        self.assertEqual(house.moment(), 5)
        self.assertEqual(house.inputs(), [("start", 5, "brew", 3)])
        self.assertEqual(house.take(("start", 5, "bake", 4)), [("order", 0, 0, "bake", 4)])

    def test_one_that_ends_at_once(self):
        house = House(programs(a="", b="end arg\n"))
        self.assertEqual(house.take(("start", 0, "a", 1)), [("ended", 0, None)])
        self.assertEqual(house.take(("start", 0, "b", 1)), [("ended", 1, 1)])
        self.assertEqual(house.waits(0), ("ended", None))
        self.assertEqual(house.waits(1), ("ended", 1))

    def test_one_that_is_worn_at_once(self):
        house = House(programs(a="t = order bake 1\nwhile 1\ndone\n"))
        self.assertEqual(house.take(("start", 0, "a", 1)), [("order", 0, 0, "bake", 1), ("worn", 0)])
        self.assertEqual(house.waits(0), ("worn",))
        self.assertEqual(house.open_orders(), [])

    def test_arg_and_now(self):
        house = House(programs(a="end ( arg + now )\n"))
        self.assertEqual(house.take(("start", 30, "a", 4)), [("ended", 0, 34)])
        self.assertEqual(house.take(("start", 10, "a", 5)), [("ended", 1, 35)])
        self.assertEqual(house.take(("start", 10 ** 12, "a", -1)), [("ended", 2, 10 ** 9 - 1)])


class Answers(unittest.TestCase):
    def setUp(self):
        self.house = House(programs(bake=BAKE, both=BOTH, many=MANY, drop=DROP, ring=RING, ear=EAR))

    def nothing(self, some):
        before = [self.house.taken(run) for run in range(self.house.runs())]
        waits = [self.house.waits(run) for run in range(self.house.runs())]
        orders = self.house.open_orders()
        timers = self.house.open_timers()
        many = len(self.house.inputs())
        self.assertEqual(self.house.take(some), [])
        self.assertEqual([self.house.taken(run) for run in range(self.house.runs())], before)
        self.assertEqual([self.house.waits(run) for run in range(self.house.runs())], waits)
        self.assertEqual(self.house.open_orders(), orders)
        self.assertEqual(self.house.open_timers(), timers)
        self.assertEqual(self.house.inputs()[many:], [some])
        self.assertGreaterEqual(self.house.moment(), some[1])

    def test_an_answer(self):
        self.house.take(("start", 1, "bake", 3))
        self.assertEqual(self.house.take(("answer", 9, 0, 0, 12)), [("ended", 0, 12)])
        self.assertEqual(self.house.taken(0), [("begin", 1, 3), ("done", 9, 0, 12)])
        self.assertEqual(self.house.open_orders(), [])

    def test_an_answer_of_none(self):
        self.house.take(("start", 1, "bake", 3))
        self.assertEqual(self.house.take(("answer", 1, 0, 0, None)), [("ended", 0, None)])
        self.assertEqual(self.house.taken(0)[1:], [("done", 1, 0, None)])

    def test_runs_that_are_not_there(self):
        self.house.take(("start", 1, "bake", 3))
        for run in (1, 2, -1, -2, FAR, -FAR):
            self.nothing(("answer", 2, run, 0, 5))

    def test_tickets_that_are_not_there(self):
        self.house.take(("start", 1, "bake", 3))
        for ticket in (1, -1, FAR, -FAR):
            self.nothing(("answer", 2, 0, ticket, 5))

    def test_a_timers_ticket(self):
        self.house.take(("start", 0, "both", 3))
        self.nothing(("answer", 60, 0, 1, 5))
        self.nothing(("answer", 100, 0, 1, None))
        self.assertEqual(self.house.take(("tick", 100)), [("ended", 0, 1)])

    def test_a_childs_ticket(self):
        self.house.take(("start", 0, "many", 3))
        self.nothing(("answer", 1, 0, 3, 5))
        self.assertEqual(self.house.parent(1), (0, 3))

    def test_twice(self):
        self.house.take(("start", 0, "many", 3))
        self.assertEqual(self.house.take(("answer", 1, 0, 0, 5)), [])
        self.assertEqual(self.house.taken(0)[-1], ("done", 1, 0, 5))
        self.nothing(("answer", 2, 0, 0, 6))
        self.nothing(("answer", 2, 0, 0, 5))

    def test_a_dropped_one(self):
        self.house.take(("start", 0, "drop", 3))
        self.assertEqual(self.house.open_orders(), [("order", 0, 0, "bake", 3)])
        self.house.take(("letter", 0, 0, "k", 0))
        self.assertEqual(self.house.open_orders(), [])
        self.assertEqual(self.house.open_timers(), [])
        self.nothing(("answer", 1, 0, 0, 5))

    def test_a_run_that_is_no_more(self):
        self.house.take(("start", 0, "both", 3))
        self.house.take(("tick", 60))
        self.nothing(("answer", 61, 0, 0, 5))

    def test_a_worn_run(self):
        house = House(programs(a="t = order bake 1\nk = hear k\nwhile 1\ndone\n"))
        house.take(("start", 0, "a", 0))
        self.assertEqual(house.open_orders(), [("order", 0, 0, "bake", 1)])
        self.assertEqual(house.take(("letter", 0, 0, "k", 1)), [("worn", 0)])
        self.assertEqual(house.open_orders(), [])
        self.assertEqual(house.take(("answer", 3, 0, 0, 5)), [])
        self.assertEqual(len(house.taken(0)), 2)
        self.assertEqual(house.moment(), 3)

    def test_only_the_run_that_is_named(self):
        self.house.take(("start", 0, "bake", 3))
        self.house.take(("start", 0, "bake", 4))
        self.assertEqual(self.house.take(("answer", 0, 1, 0, 9)), [("ended", 1, 9)])
        self.assertEqual(self.house.waits(0), ("wait", (0,)))
        self.assertEqual(self.house.open_orders(), [("order", 0, 0, "bake", 3)])


class Letters(unittest.TestCase):
    def test_letters(self):
        house = House(programs(ear=EAR))
        house.take(("start", 1, "ear", None))
        self.assertEqual(house.take(("letter", 2, 0, "l", 9)), [])
        self.assertEqual(house.take(("letter", 2, 0, "k", 9)), [])
        self.assertEqual(house.waits(0), ("hear", "k"))
        self.assertEqual(house.take(("letter", 2, 0, "k", None)), [("ended", 0, 9)])
        self.assertEqual(house.taken(0), [("begin", 1, None), ("letter", 2, "l", 9), ("letter", 2, "k", 9),
                                          ("letter", 2, "k", None)])

    def test_runs_that_are_not_there(self):
        house = House(programs(ear=EAR))
        house.take(("start", 1, "ear", None))
        for run in (1, -1, FAR, -FAR):
            self.assertEqual(house.take(("letter", 2, run, "k", 9)), [])
        self.assertEqual(house.taken(0), [("begin", 1, None)])
        self.assertEqual(len(house.inputs()), 5)
        self.assertEqual(house.runs(), 1)

    def test_runs_that_are_no_more(self):
        house = House(programs(a="", b="while 1\ndone\n"))
        house.take(("start", 1, "a", None))
        house.take(("start", 1, "b", None))
        self.assertEqual(house.waits(1), ("worn",))
        for run in (0, 1):
            self.assertEqual(house.take(("letter", 2, run, "k", 9)), [])
            self.assertEqual(house.taken(run), [("begin", 1, None)])
        self.assertEqual(house.moment(), 2)


class Moments(unittest.TestCase):
    def test_the_greatest(self):
        house = House(programs(ear=EAR))
        for some, moment in ((("start", 5, "ear", 0), 5), (("tick", 3), 5), (("letter", 9, 0, "l", 0), 9),
                             (("answer", 8, 0, 0, 0), 9), (("answer", 10, 7, 0, 0), 10), (("start", 11, "no", 0), 11),
                             (("tick", 12), 12), (("tick", 0), 12), (("letter", 13, 7, "k", 0), 13)):
            house.take(some)
            self.assertEqual(house.moment(), moment)

    def test_happenings_are_at_the_houses_moment(self):
        house = House(programs(ear=EAR, bake=BAKE, ring=RING))
        house.take(("tick", 100))
        house.take(("start", 3, "ear", 1))
        self.assertEqual(house.taken(0), [("begin", 100, 1)])
        house.take(("letter", 99, 0, "k", 1))
        self.assertEqual(house.taken(0)[1:], [("letter", 100, "k", 1)])
        house.take(("start", 4, "bake", 1))
        house.take(("answer", 5, 1, 0, 2))
        self.assertEqual(house.taken(1), [("begin", 100, 1), ("done", 100, 0, 2)])
        house.take(("start", 4, "ring", 10))
        self.assertEqual(house.open_timers(), [(110, 2, 0)])

    def test_inputs_are_kept_with_their_own_moments(self):
        house = House(programs(ear=EAR))
        row = [("tick", 100), ("start", 3, "ear", 1), ("letter", 99, 0, "k", 1), ("tick", 4)]
        for some in row:
            house.take(some)
        self.assertEqual(house.inputs(), row)


class Ticks(unittest.TestCase):
    def test_ahead_of_the_next_due(self):
        house = House(programs(ring=RING))
        house.take(("start", 10, "ring", 5))
        self.assertEqual(house.next_due(), 15)
        self.assertEqual(house.take(("tick", 14)), [])
        self.assertEqual(house.moment(), 14)
        self.assertEqual(house.inputs()[1:], [("tick", 14)])
        self.assertEqual(house.taken(0), [("begin", 10, 5)])
        self.assertEqual(house.open_timers(), [(15, 0, 0)])

    def test_at_the_due_and_behind_it(self):
        for moment in (15, 16, 10 ** 12):
            house = House(programs(ring=RING))
            house.take(("start", 10, "ring", 5))
            self.assertEqual(house.take(("tick", moment)), [("ended", 0, min(moment, 10 ** 9))])
            self.assertEqual(house.taken(0)[1:], [("done", moment, 0, None)])
            self.assertEqual(house.open_timers(), [])
            self.assertIsNone(house.next_due())

    def test_a_tick_of_a_lesser_moment_rings_at_the_houses(self):
        house = House(programs(ring=RING))
        house.take(("start", 10, "ring", 5))
        house.take(("start", 20, "no", 5))
        self.assertEqual(house.taken(0), [("begin", 10, 5)])
        self.assertEqual(house.take(("tick", 0)), [("ended", 0, 20)])
        self.assertEqual(house.taken(0)[1:], [("done", 20, 0, None)])

    def test_other_inputs_ring_nothing(self):
        house = House(programs(ring=RING, ear=EAR))
        house.take(("start", 0, "ring", 5))
        house.take(("start", 50, "ear", 5))
        house.take(("letter", 60, 1, "k", 5))
        house.take(("answer", 70, 0, 0, 5))
        self.assertEqual(house.taken(0), [("begin", 0, 5)])
        self.assertEqual(house.open_timers(), [(5, 0, 0)])

    def test_dues(self):
        house = House(programs(ring=RING))
        for worth, due in ((0, 50), (None, 50), (-3, 50), (7, 57), (10 ** 9, 10 ** 9 + 50)):
            house.take(("start", 50, "ring", worth))
            self.assertEqual(house.open_timers()[-1], (due, house.runs() - 1, 0))
        self.assertEqual(house.next_due(), 50)
        house.take(("start", 10 ** 12, "ring", 1))
        self.assertEqual(house.open_timers()[-1], (10 ** 12, 5, 0))

    def test_none_at_all(self):
        house = House({})
        self.assertEqual(house.take(("tick", 0)), [])
        self.assertEqual(house.inputs(), [("tick", 0)])


class Told(unittest.TestCase):
    def house(self):
        house = House(programs(many=MANY, bake=BAKE, ear=EAR, ring=RING))
        house.take(("start", 10, "ear", 0))
        house.take(("start", 10, "many", 0))
        house.take(("start", 12, "many", 0))
        house.take(("start", 2, "ring", 1))
        return house

    def test_programs(self):
        house = self.house()
        self.assertEqual(house.program("many"), read_program(MANY))
        self.assertEqual(house.program("ear"), read_program(EAR))
        self.assertIsNone(house.program("no"))
        self.assertEqual([house.program_of(run) for run in range(house.runs())],
                         ["ear", "many", "bake", "many", "bake", "ring"])

    def test_a_program_of_no_statements(self):
        house = House({"a": ()})
        self.assertEqual(house.program("a"), ())

    def test_open_orders_by_run_and_ticket(self):
        self.assertEqual(self.house().open_orders(), [
            ("order", 1, 0, "bake", 1), ("order", 1, 2, "brew", 2), ("order", 2, 0, "bake", 3),
            ("order", 3, 0, "bake", 1), ("order", 3, 2, "brew", 2), ("order", 4, 0, "bake", 3)])

    def test_open_orders_of_more_than_ten(self):
        house = House(programs(a="t = order w 1\n" * 12 + "k = hear k\n"))
        for _ in range(12):
            house.take(("start", 0, "a", 0))
        self.assertEqual(house.open_orders(),
                         [("order", run, ticket, "w", 1) for run in range(12) for ticket in range(12)])

    def test_open_orders_of_an_earlier_run_that_come_later(self):
        house = House(programs(a="k = hear k\nt = order w 1\nk = hear k\n", bake=BAKE))
        house.take(("start", 0, "a", 0))
        house.take(("start", 0, "bake", 2))
        house.take(("letter", 0, 0, "k", 0))
        self.assertEqual(house.open_orders(), [("order", 0, 0, "w", 1), ("order", 1, 0, "bake", 2)])

    def test_open_timers_sorted(self):
        house = self.house()
        self.assertEqual(house.open_timers(), [(13, 1, 4), (13, 5, 0), (15, 1, 1), (15, 3, 4), (17, 3, 1)])
        self.assertEqual(house.next_due(), 13)
        house.take(("tick", 13))
        self.assertEqual(house.open_timers(), [(15, 1, 1), (15, 3, 4), (17, 3, 1)])
        self.assertEqual(house.next_due(), 15)

    def test_orders_are_told_when_a_run_ends_an_earlier_one(self):
        house = self.house()
        house.take(("letter", 12, 1, "k", 0))
        self.assertEqual(house.waits(1), ("ended", None))
        self.assertEqual([order[1] for order in house.open_orders()], [2, 3, 3, 4])
        self.assertEqual([timer[1] for timer in house.open_timers()], [5, 3, 3])

    def test_parents(self):
        house = self.house()
        self.assertEqual([house.parent(run) for run in range(6)], [None, None, (1, 3), None, (3, 3), None])
        house.take(("answer", 12, 2, 0, 1))
        self.assertEqual(house.parent(2), (1, 3))

    def test_waiting(self):
        house = self.house()
        self.assertEqual([house.waits(run) for run in range(6)],
                         [("hear", "k"), ("hear", "k"), ("wait", (0,)), ("hear", "k"), ("wait", (0,)), ("wait", (0,))])

    def test_taken_run_again_stands_where_it_stands(self):
        house = self.house()
        house.take(("answer", 12, 2, 0, 1))
        house.take(("tick", 15))
        for number in range(house.runs()):
            run = Run(house.program(house.program_of(number)))
            for happening in house.taken(number):
                run.take(happening)
            self.assertEqual(run.waits(), house.waits(number))

    def test_no_run(self):
        house = self.house()
        for number in (-1, -6, -7, 6, 7, FAR, -FAR):
            for ask in (house.program_of, house.waits, house.taken, house.parent):
                with self.assertRaises(NoRun):
                    ask(number)
        for ask in (House({}).program_of, House({}).waits, House({}).taken, House({}).parent):
            with self.assertRaises(NoRun):
                ask(0)
            with self.assertRaises(NoRun):
                ask(-1)


class Own(unittest.TestCase):
    def told(self, house):
        return (house.moment(), house.inputs(), house.runs(), house.open_orders(), house.open_timers(),
                house.next_due(), [(house.program_of(run), house.waits(run), house.taken(run), house.parent(run))
                                   for run in range(house.runs())])

    def test_lists_told_are_the_askers(self):
        house = House(programs(many=MANY, bake=BAKE))
        first = house.take(("start", 0, "many", 0))
        before = copy.deepcopy(self.told(house))
        lists = [first, house.inputs(), house.open_orders(), house.open_timers(), house.taken(0), house.taken(1)]
        for told in lists:
            told.append("more")
            told.reverse()
            told.clear()
        self.assertEqual(self.told(house), before)

    def test_no_two_are_one(self):
        house = House(programs(many=MANY, bake=BAKE))
        house.take(("start", 0, "many", 0))
        lists = [house.take(("tick", 0)), house.take(("tick", 0))]
        for ask in (house.inputs, house.open_orders, house.open_timers):
            lists.extend((ask(), ask()))
        lists.extend((house.taken(0), house.taken(0), house.taken(1)))
        self.assertEqual(len({id(one) for one in lists}), len(lists))

    def test_what_is_done_later_changes_none_of_them(self):
        house = House(programs(many=MANY, bake=BAKE))
        lists = [house.take(("start", 0, "many", 0)), house.inputs(), house.open_orders(), house.open_timers(),
                 house.taken(0), house.taken(1)]
        before = copy.deepcopy(lists)
        house.take(("answer", 3, 0, 0, 9))
        house.take(("tick", 100))
        house.take(("letter", 100, 0, "k", 9))
        house.take(("start", 100, "many", 9))
        self.assertEqual(lists, before)

    def test_the_dict_of_programs(self):
        given = programs(many=MANY, bake=BAKE)
        same = dict(given)
        house = House(given)
        house.take(("start", 0, "many", 0))
        self.assertEqual(given, same)
        given["bake"] = ()
        given["new"] = ()
        given.pop("many")
        self.assertEqual(house.program("bake"), same["bake"])
        self.assertEqual(house.program("many"), same["many"])
        self.assertIsNone(house.program("new"))
        self.assertEqual(house.take(("start", 0, "new", 0)), [])
        self.assertEqual(house.take(("start", 0, "many", 0)), [
            ("order", 2, 0, "bake", 1), ("order", 2, 2, "brew", 2), ("order", 3, 0, "bake", 3)])

    def test_two_houses_of_one_dict(self):
        given = programs(bake=BAKE)
        one = House(given)
        other = House(given)
        one.take(("start", 3, "bake", 1))
        self.assertEqual(self.told(other), (0, [], 0, [], [], None, []))


if __name__ == "__main__":
    unittest.main()
