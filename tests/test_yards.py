"""A yard: its moves in their order, its road, its stops, and how it is quieted."""

import inspect
import unittest

from outlast.house import House
from outlast.readers import read_program
from outlast.yards import Yard

TRADE = {"bake": ("sum", 100), "brew": ("count",)}

BAKE = "t = order bake arg\nw = wait t\nend answer t\n"
TWO = "t = order bake arg\nu = order brew arg\nw = wait t\nx = wait u\nend ( answer t + answer u )\n"
RING = "t = timer arg\nw = wait t\nend now\n"
BOTH = "t = timer arg\nu = order bake arg\nw = wait t u\nend w\n"
# Orders again and again, without end.
EVER = "while 1\nt = order brew 1\nw = wait t\ndone\n"
# Sets timers again and again, without end.
CLOCK = "while 1\nt = timer 5\nw = wait t\ndone\n"


def programs(**texts):
    return {name: read_program(text) for name, text in texts.items()}


def yard_of(starts, **texts):
    return Yard(programs(**texts), TRADE, starts)


def told(house):
    return (house.moment(), house.inputs(), house.runs(), house.open_orders(), house.open_timers(), house.next_due(),
            [(house.program_of(run), house.waits(run), house.taken(run), house.parent(run))
             for run in range(house.runs())])


ORDER = ("order", 0, 0, "bake", 5)
ANSWER = ("answer", 0, 0, 105)


class Interface(unittest.TestCase):
    def test_arguments(self):
        yard = Yard({}, {}, [])
        self.assertEqual(list(inspect.signature(Yard).parameters), ["programs", "trade", "starts"])
        for name, arguments in (("moves", []), ("move", ["choice"]), ("quiet", ["rounds"]), ("house", []),
                                ("deeds", []), ("road", [])):
            self.assertEqual(list(inspect.signature(getattr(yard, name)).parameters), arguments, name)

    def test_kinds(self):
        yard = yard_of([("bake", 1)], bake=BAKE)
        self.assertIs(type(yard.moves()), int)
        self.assertIsNone(yard.move(0))
        self.assertIs(type(yard.house()), House)
        self.assertIs(type(yard.road()), list)
        self.assertIs(type(yard.road()[0]), tuple)
        self.assertIsNone(yard.quiet(3))
        self.assertIs(type(yard.deeds()), list)
        self.assertIs(type(yard.deeds()[0]), tuple)

    def test_an_empty_yard(self):
        yard = Yard({}, {}, [])
        self.assertEqual(yard.moves(), 2)
        self.assertEqual(yard.road(), [])
        self.assertEqual(yard.deeds(), [])
        self.assertEqual(told(yard.house()), told(House({})))
        for choice in range(4):
            yard.move(choice)
        self.assertEqual(yard.road(), [])
        self.assertEqual(told(yard.house()), told(House({})))


class HowMany(unittest.TestCase):
    def test_with_starts(self):
        yard = yard_of([("bake", 5), ("bake", 6)], bake=BAKE)
        self.assertEqual(yard.moves(), 3)
        yard.move(0)
        # A start, three for the letter, sending again, a stop.
        self.assertEqual(yard.moves(), 6)
        yard.move(0)
        self.assertEqual(yard.moves(), 8)

    def test_with_a_due(self):
        yard = yard_of([("ring", 5)], ring=RING)
        self.assertEqual(yard.moves(), 3)
        yard.move(0)
        self.assertEqual(yard.moves(), 3)
        yard.move(1)
        self.assertEqual(yard.house().waits(0), ("ended", 5))
        self.assertEqual(yard.moves(), 2)

    def test_all_kinds(self):
        yard = yard_of([("both", 5), ("both", 6), ("both", 7)], both=BOTH)
        for moves in (3, 7, 10):
            self.assertEqual(yard.moves(), moves)
            yard.move(0)
        self.assertEqual(yard.moves(), 12)

    def test_sixty_on_the_road(self):
        yard = yard_of([("bake", 5), ("bake", 6)], bake=BAKE)
        yard.move(0)
        for many in range(1, 60):
            self.assertEqual(len(yard.road()), many)
            self.assertEqual(yard.moves(), 3 * many + 3)
            # The first letter is doubled.
            yard.move(1 + 2 * many)
        self.assertEqual(len(yard.road()), 60)
        self.assertEqual(yard.moves(), 2 * 60 + 3)
        # Now sending again stands where doubling stood.
        yard.move(1 + 2 * 60)
        self.assertEqual(len(yard.road()), 61)
        self.assertEqual(yard.moves(), 2 * 61 + 3)
        yard.move(0)
        self.assertEqual(len(yard.road()), 62)
        self.assertEqual(yard.moves(), 2 * 62 + 2)
        for many in range(62, 59, -1):
            self.assertEqual(yard.moves(), 2 * many + 2)
            yard.move(many)
        self.assertEqual(len(yard.road()), 59)
        self.assertEqual(yard.moves(), 3 * 59 + 2)


class Starts(unittest.TestCase):
    def test_in_their_order(self):
        yard = yard_of([("bake", 5), ("ring", 6), ("bake", None)], bake=BAKE, ring=RING)
        for _ in range(3):
            yard.move(0)
        self.assertEqual(yard.house().inputs(), [("start", 0, "bake", 5), ("start", 0, "ring", 6),
                                                 ("start", 0, "bake", None)])
        self.assertEqual(yard.road(), [ORDER, ("order", 2, 0, "bake", None)])

    def test_at_the_houses_moment(self):
        yard = yard_of([("ring", 6), ("ring", 1)], ring=RING)
        yard.move(0)
        yard.move(2)
        self.assertEqual(yard.house().moment(), 6)
        yard.move(0)
        self.assertEqual(yard.house().inputs()[-1], ("start", 6, "ring", 1))
        self.assertEqual(yard.house().open_timers(), [(7, 1, 0)])

    def test_of_no_program(self):
        yard = yard_of([("no", 5), ("bake", 5)], bake=BAKE)
        yard.move(0)
        self.assertEqual(yard.house().inputs(), [("start", 0, "no", 5)])
        self.assertEqual(yard.moves(), 3)
        yard.move(0)
        self.assertEqual(yard.road(), [ORDER])

    def test_only_orders_are_letters(self):
        text = "send 7 k 1\nt = order bake 5\nc = child b 1\nu = timer 3\nend 4\n"
        yard = yard_of([("a", 1)], a=text, b="while 1\ndone\n")
        yard.move(0)
        self.assertEqual(yard.road(), [ORDER])

    def test_spent_is_no_letter(self):
        yard = yard_of([("a", 1)], a="while 1\nsend 0 k 1\nk = hear k\ndone\n")
        yard.move(0)
        self.assertEqual(yard.road(), [])


class Letters(unittest.TestCase):
    def yard(self):
        yard = yard_of([("bake", 5)], bake=BAKE)
        yard.move(0)
        return yard

    def test_an_order_comes(self):
        yard = self.yard()
        yard.move(0)
        self.assertEqual(yard.road(), [ANSWER])
        self.assertEqual(yard.deeds(), [(0, 0, "bake", 5, 105)])
        self.assertEqual(yard.house().inputs(), [("start", 0, "bake", 5)])

    def test_an_answer_comes(self):
        yard = self.yard()
        yard.move(0)
        yard.move(0)
        self.assertEqual(yard.road(), [])
        self.assertEqual(yard.house().inputs(), [("start", 0, "bake", 5), ("answer", 0, 0, 0, 105)])
        self.assertEqual(yard.house().waits(0), ("ended", 105))

    def test_an_order_is_lost(self):
        yard = self.yard()
        yard.move(1)
        self.assertEqual(yard.road(), [])
        self.assertEqual(yard.deeds(), [])
        self.assertEqual(yard.house().open_orders(), [ORDER])

    def test_an_answer_is_lost(self):
        yard = self.yard()
        yard.move(0)
        yard.move(1)
        self.assertEqual(yard.road(), [])
        self.assertEqual(yard.deeds(), [(0, 0, "bake", 5, 105)])
        self.assertEqual(yard.house().waits(0), ("wait", (0,)))

    def test_doubled(self):
        yard = self.yard()
        yard.move(2)
        self.assertEqual(yard.road(), [ORDER, ORDER])
        yard.move(0)
        self.assertEqual(yard.road(), [ORDER, ANSWER])
        # Moves now: two come, two are lost, two are doubled.
        yard.move(5)
        self.assertEqual(yard.road(), [ORDER, ANSWER, ANSWER])
        yard.move(0)
        self.assertEqual(yard.road(), [ANSWER, ANSWER, ANSWER])
        self.assertEqual(yard.deeds(), [(0, 0, "bake", 5, 105)])

    def test_an_answer_whose_ticket_is_done_is_an_input_still(self):
        yard = self.yard()
        yard.move(2)
        for _ in range(4):
            yard.move(0)
        self.assertEqual(yard.road(), [])
        self.assertEqual(yard.house().inputs(), [("start", 0, "bake", 5), ("answer", 0, 0, 0, 105),
                                                 ("answer", 0, 0, 0, 105)])
        self.assertEqual(yard.house().taken(0), [("begin", 0, 5), ("done", 0, 0, 105)])

    def test_answers_at_the_houses_moment(self):
        yard = self.yard()
        yard.move(0)
        yard.house().take(("tick", 44))
        yard.move(0)
        self.assertEqual(yard.house().inputs()[-1], ("answer", 44, 0, 0, 105))

    def test_the_letters_from_the_front(self):
        texts = {"a": "t = order bake 1\nu = order bake 2\nv = order bake 3\nk = hear k\n"}
        orders = [("order", 0, ticket, "bake", ticket + 1) for ticket in range(3)]
        answers = [("answer", 0, ticket, 101 + ticket) for ticket in range(3)]
        for place in range(3):
            yard = yard_of([("a", 0)], **texts)
            yard.move(0)
            self.assertEqual(yard.road(), orders)
            yard.move(place)
            self.assertEqual(yard.road(), orders[:place] + orders[place + 1:] + [answers[place]])
            yard = yard_of([("a", 0)], **texts)
            yard.move(0)
            yard.move(3 + place)
            self.assertEqual(yard.road(), orders[:place] + orders[place + 1:])
            yard = yard_of([("a", 0)], **texts)
            yard.move(0)
            yard.move(6 + place)
            self.assertEqual(yard.road(), orders + [orders[place]])

    def test_an_answers_orders_are_put_on_the_road(self):
        yard = yard_of([("a", 5)], a="t = order bake arg\nw = wait t\nu = order brew answer t\nw = wait u\n")
        yard.move(0)
        yard.move(2)
        yard.move(0)
        yard.move(1)
        self.assertEqual(yard.road(), [ORDER, ("order", 0, 1, "brew", 105)])

    def test_an_order_that_is_open_no_more_is_done_all_the_same(self):
        yard = yard_of([("a", 5)], a="t = order bake arg\nend 1\n")
        yard.move(0)
        self.assertEqual(yard.house().open_orders(), [])
        self.assertEqual(yard.road(), [ORDER])
        yard.move(0)
        self.assertEqual(yard.deeds(), [(0, 0, "bake", 5, 105)])
        yard.move(0)
        self.assertEqual(yard.house().inputs()[1:], [("answer", 0, 0, 0, 105)])
        self.assertEqual(yard.house().taken(0), [("begin", 0, 5)])


class SentAgain(unittest.TestCase):
    def test_all_open_orders_each_once(self):
        yard = yard_of([("two", 1), ("two", 2)], two=TWO)
        yard.move(0)
        yard.move(0)
        orders = [("order", 0, 0, "bake", 1), ("order", 0, 1, "brew", 1), ("order", 1, 0, "bake", 2),
                  ("order", 1, 1, "brew", 2)]
        self.assertEqual(yard.road(), orders)
        house = yard.house()
        # Four come, four are lost, four are doubled, then this.
        yard.move(12)
        self.assertEqual(yard.road(), orders + orders)
        self.assertIs(yard.house(), house)
        self.assertEqual(house.inputs(), [("start", 0, "two", 1), ("start", 0, "two", 2)])

    def test_by_run_then_ticket(self):
        yard = yard_of([("two", 1), ("two", 2)], two=TWO)
        yard.move(0)
        yard.move(0)
        # The third letter (of run 1) comes, and its answer, which stands last then.
        yard.move(2)
        yard.move(3)
        yard.move(9)
        self.assertEqual(yard.road(), [("order", 0, 0, "bake", 1), ("order", 0, 1, "brew", 1),
                                       ("order", 1, 1, "brew", 2)] * 2)

    def test_none_open(self):
        yard = yard_of([("a", 5)], a="t = order bake arg\nend 1\n")
        yard.move(0)
        yard.move(3)
        self.assertEqual(yard.road(), [ORDER])

    def test_a_known_one_is_answered_alike(self):
        yard = yard_of([("bake", 5)], bake=BAKE)
        yard.move(0)
        yard.move(0)
        yard.move(1)
        yard.move(0)
        self.assertEqual(yard.road(), [ORDER])
        yard.move(0)
        self.assertEqual(yard.road(), [ANSWER])
        self.assertEqual(yard.deeds(), [(0, 0, "bake", 5, 105)])


class Ticks(unittest.TestCase):
    def test_at_the_next_due(self):
        yard = yard_of([("ring", 9), ("ring", 4)], ring=RING)
        yard.move(0)
        yard.move(0)
        yard.move(1)
        self.assertEqual(yard.house().inputs()[2:], [("tick", 4)])
        yard.move(1)
        self.assertEqual(yard.house().inputs()[3:], [("tick", 9)])

    def test_at_the_houses_moment_where_that_is_greater(self):
        yard = yard_of([("ring", 9)], ring=RING)
        yard.move(0)
        yard.house().take(("start", 30, "no", 1))
        yard.move(1)
        self.assertEqual(yard.house().inputs()[2:], [("tick", 30)])
        self.assertEqual(yard.house().waits(0), ("ended", 30))

    def test_its_orders_are_put_on_the_road(self):
        yard = yard_of([("a", 5)], a="t = timer 3\nw = wait t\nt = order bake arg\nw = wait t\n")
        yard.move(0)
        self.assertEqual(yard.road(), [])
        yard.move(1)
        self.assertEqual(yard.road(), [("order", 0, 1, "bake", 5)])

    def test_behind_sending_again_and_ahead_of_a_stop(self):
        yard = yard_of([("both", 5)], both=BOTH)
        yard.move(0)
        house = yard.house()
        yard.move(4)
        self.assertIs(yard.house(), house)
        self.assertEqual(house.inputs()[1:], [("tick", 5)])
        yard.move(3)
        self.assertEqual(house.inputs()[2:], [])


class Stops(unittest.TestCase):
    def test_the_house_that_it_was(self):
        yard = yard_of([("two", 1), ("both", 2), ("no", 3)], two=TWO, both=BOTH)
        for _ in range(3):
            yard.move(0)
        house = yard.house()
        before = told(house)
        road = yard.road()
        yard.move(-1)
        self.assertIsNot(yard.house(), house)
        self.assertEqual(told(yard.house()), before)
        self.assertEqual(yard.road(), road + house.open_orders())

    def test_open_orders_are_put_on_the_road(self):
        yard = yard_of([("two", 1)], two=TWO)
        yard.move(0)
        orders = [("order", 0, 0, "bake", 1), ("order", 0, 1, "brew", 1)]
        # Both are lost, then sent at the stop.
        yard.move(2)
        yard.move(1)
        self.assertEqual(yard.road(), [])
        yard.move(-1)
        self.assertEqual(yard.road(), orders)
        yard.move(-1)
        self.assertEqual(yard.road(), orders * 2)

    def test_the_road_keeps_what_is_on_it(self):
        yard = yard_of([("two", 1)], two=TWO)
        yard.move(0)
        yard.move(0)
        yard.move(1)
        self.assertEqual(yard.road(), [("order", 0, 1, "brew", 1)])
        yard.move(-1)
        self.assertEqual(yard.road(), [("order", 0, 1, "brew", 1)] * 2)
        self.assertEqual(yard.deeds(), [(0, 0, "bake", 1, 101)])

    def test_orders_that_went_out_and_are_open_no_more_are_not_sent(self):
        yard = yard_of([("a", 5)], a="t = order bake arg\nend 1\n")
        yard.move(0)
        yard.move(1)
        yard.move(-1)
        self.assertEqual(yard.road(), [])

    def test_starts_that_are_left_stay_left(self):
        yard = yard_of([("bake", 5), ("bake", 6)], bake=BAKE)
        yard.move(0)
        yard.move(-1)
        yard.move(0)
        self.assertEqual(yard.house().inputs(), [("start", 0, "bake", 5), ("start", 0, "bake", 6)])

    def test_the_worker_knows_what_it_did(self):
        yard = yard_of([("bake", 5)], bake=BAKE)
        yard.move(0)
        yard.move(0)
        yard.move(-1)
        self.assertEqual(yard.road(), [ANSWER, ORDER])
        yard.quiet(4)
        self.assertEqual(yard.deeds(), [(0, 0, "bake", 5, 105)])

    def test_what_the_old_house_takes_is_no_more_of_the_yard(self):
        yard = yard_of([("bake", 5)], bake=BAKE)
        yard.move(0)
        house = yard.house()
        yard.move(-1)
        house.take(("start", 9, "bake", 7))
        self.assertEqual(yard.house().runs(), 1)
        self.assertEqual(yard.house().moment(), 0)


class TheHouseThatIsTold(unittest.TestCase):
    def test_the_very_one_till_the_next_stop(self):
        yard = yard_of([("both", 5), ("both", 6)], both=BOTH)
        house = yard.house()
        for choice in (0, 0, 0, 3, 7, 10):
            yard.move(choice)
            self.assertIs(yard.house(), house)
        self.assertGreater(len(house.inputs()), 1)
        yard.move(yard.moves() - 1)
        self.assertIsNot(yard.house(), house)
        other = yard.house()
        yard.quiet(5)
        self.assertIs(yard.house(), other)

    def test_what_its_asker_has_it_take(self):
        yard = yard_of([], bake=BAKE)
        self.assertEqual(yard.house().take(("start", 8, "bake", 5)), [ORDER])
        self.assertEqual(yard.road(), [])
        self.assertEqual(yard.house().inputs(), [("start", 8, "bake", 5)])
        self.assertEqual(yard.moves(), 2)
        yard.move(-1)
        self.assertEqual(yard.house().inputs(), [("start", 8, "bake", 5)])
        self.assertEqual(yard.road(), [ORDER])

    def test_its_orders_are_open_and_sent_again(self):
        yard = yard_of([], bake=BAKE)
        yard.house().take(("start", 8, "bake", 5))
        yard.move(0)
        self.assertEqual(yard.road(), [ORDER])

    def test_what_lies_beyond_the_bounds_comes_up_too(self):
        yard = yard_of([("bakery", 5), ("bakerys", 5)], bakery=BAKE, bakerys=BAKE)
        yard.move(0)
        yard.move(0)
        yard.house().take(("tick", 10 ** 12 + 1))
        yard.house().take(("letter", 10 ** 12, 10 ** 41, "k", 10 ** 9 + 1))
        before = told(yard.house())
        yard.move(-1)
        self.assertEqual(told(yard.house()), before)


class Choices(unittest.TestCase):
    def state(self, choice):
        yard = yard_of([("both", 5), ("two", 6), ("two", 7)], both=BOTH, two=TWO)
        yard.move(0)
        yard.move(0)
        yard.move(choice)
        return (told(yard.house()), yard.road(), yard.deeds(), yard.moves())

    def test_what_is_left_over(self):
        # A start, nine of three letters, sending again, a tick, a stop.
        states = [self.state(choice) for choice in range(13)]
        self.assertEqual(len({repr(state) for state in states[:11]}), 11)
        for choice in range(-40, 60):
            self.assertEqual(self.state(choice), states[choice % 13])
        for choice in (13 * 10 ** 30 + 4, 4 - 13 * 10 ** 30):
            self.assertEqual(self.state(choice), states[4])
        self.assertEqual(self.state(-1), states[12])
        self.assertEqual(self.state(-13), states[0])
        self.assertEqual(self.state(-14), states[12])


class Quiet(unittest.TestCase):
    def test_of_no_rounds(self):
        for rounds in (0, -1):
            yard = yard_of([("bake", 5), ("ring", 6), ("bake", 7)], bake=BAKE, ring=RING)
            yard.move(0)
            yard.quiet(rounds)
            self.assertEqual(yard.house().inputs(), [("start", 0, "bake", 5), ("start", 0, "ring", 6),
                                                     ("start", 0, "bake", 7)])
            self.assertEqual(yard.road(), [ORDER, ("order", 2, 0, "bake", 7)])
            self.assertEqual(yard.deeds(), [])

    def test_of_one_round(self):
        yard = yard_of([("bake", 5), ("ring", 6)], bake=BAKE, ring=RING)
        yard.quiet(1)
        self.assertEqual(yard.house().inputs(), [("start", 0, "bake", 5), ("start", 0, "ring", 6),
                                                 ("answer", 0, 0, 0, 105), ("tick", 6)])
        self.assertEqual(yard.road(), [])

    def test_many_rounds_end_when_it_is_quiet(self):
        yard = yard_of([("bake", 5), ("ring", 6), ("ring", 3)], bake=BAKE, ring=RING)
        yard.quiet(10 ** 9)
        self.assertEqual(yard.house().inputs()[3:], [("answer", 0, 0, 0, 105), ("tick", 3), ("tick", 6)])

    def test_one_round_at_least(self):
        # Neither an open order nor a due, but letters on the road.
        yard = yard_of([("a", 5)], a="t = order bake arg\nend 1\n")
        yard.quiet(3)
        self.assertEqual(yard.road(), [])
        self.assertEqual(yard.deeds(), [(0, 0, "bake", 5, 105)])
        self.assertEqual(yard.house().inputs()[1:], [("answer", 0, 0, 0, 105)])
        yard.move(-1)
        yard.quiet(3)
        self.assertEqual(yard.house().inputs()[2:], [])

    def test_open_orders_are_sent_again_in_each_round(self):
        yard = yard_of([("bake", 5)], bake=BAKE)
        yard.move(0)
        yard.move(1)
        self.assertEqual(yard.road(), [])
        yard.quiet(1)
        self.assertEqual(yard.house().waits(0), ("ended", 105))
        self.assertEqual(yard.road(), [])

    def test_the_order_of_a_round(self):
        # Letters come ahead of what is sent again, and the tick comes last.
        yard = yard_of([("both", 5), ("bake", 1)], both=BOTH, bake=BAKE)
        yard.quiet(1)
        self.assertEqual(yard.house().inputs()[2:], [("answer", 0, 0, 1, 105), ("answer", 0, 1, 0, 101)])
        self.assertEqual(yard.house().waits(0), ("ended", 1))

    def test_a_tick_whose_orders_stay_on_the_road(self):
        yard = yard_of([("a", 5)], a="t = timer 3\nw = wait t\nt = order bake arg\nend 2\n")
        yard.quiet(5)
        # Behind the round there is neither an open order nor a due, so the letter stays.
        self.assertEqual(yard.road(), [("order", 0, 1, "bake", 5)])
        self.assertEqual(yard.deeds(), [])

    def test_a_tick_at_the_houses_moment(self):
        yard = yard_of([("ring", 6), ("ring", 30)], ring=RING)
        yard.quiet(0)
        yard.house().take(("letter", 20, 9, "k", 0))
        yard.quiet(9)
        self.assertEqual(yard.house().inputs()[3:], [("tick", 20), ("tick", 30)])

    def ever_by_hand(self, rounds):
        # What becomes of EVER's road, over a house alone.
        house = House(programs(ever=EVER))
        road = list(house.take(("start", 0, "ever", 0)))
        deeds = {}
        for time in range(2 * rounds):
            if time % 2:
                road.extend(house.open_orders())
            for _ in range(600):
                if road:
                    letter = road.pop(0)
                    if letter[0] == "order":
                        deeds.setdefault(letter[1:3], (letter[1], letter[2], "brew", 1, len(deeds) + 1))
                        road.append(("answer", letter[1], letter[2], deeds[letter[1:3]][4]))
                    else:
                        road.extend(told for told in house.take(("answer", 0) + letter[1:]) if told[0] == "order")
        return (road, house.inputs(), list(deeds.values()))

    def test_orders_without_end(self):
        for rounds in (1, 2, 5):
            yard = yard_of([("ever", 0)], ever=EVER)
            yard.quiet(rounds)
            self.assertEqual((yard.road(), yard.house().inputs(), yard.deeds()), self.ever_by_hand(rounds))
            self.assertEqual(len(yard.house().open_orders()), 1)
            self.assertEqual([deed[1] for deed in yard.deeds()], list(range(len(yard.deeds()))))

    def test_just_six_hundred(self):
        yard = yard_of([("a", 0)] * 6, a="t = order bake 1\n" * 50 + "k = hear k\n")
        yard.quiet(1)
        self.assertEqual(yard.road(), [])
        self.assertEqual(yard.house().inputs()[6:], [("answer", 0, run, ticket, 101) for run in range(6)
                                                     for ticket in range(50)])
        self.assertEqual(yard.house().open_orders(), [])

    def test_one_more_than_six_hundred(self):
        # 301 orders: these and 299 answers come, two answers are left. Two orders are sent again behind them.
        yard = yard_of([("b", 0)] * 6 + [("a", 0)], a="t = order bake 1\nk = hear k\n",
                       b="t = order bake 1\n" * 50 + "k = hear k\n")
        yard.quiet(1)
        self.assertEqual(yard.road(), [])
        answers = [("answer", 0, run, ticket, 101) for run in range(6) for ticket in range(50)]
        answers.append(("answer", 0, 6, 0, 101))
        self.assertEqual(yard.house().inputs()[7:], answers + answers[-2:])

    def test_more_than_six_hundred(self):
        yard = yard_of([("a", 0)] * 14, a="t = order bake 1\n" * 50 + "k = hear k\n")
        yard.quiet(1)
        # 700 orders: 600 come, then 700 are sent again behind 100 orders and 600 answers; of these 600 come:
        # 100 orders and 500 answers.
        self.assertEqual(len(yard.deeds()), 700)
        self.assertEqual(len(yard.house().inputs()), 14 + 500)
        self.assertEqual(len(yard.house().open_orders()), 200)
        self.assertEqual(len(yard.road()), 100 + 700 + 100)
        self.assertEqual(yard.road()[0], ("answer", 10, 0, 101))
        self.assertEqual(yard.road()[-1], ("answer", 13, 49, 101))

    def test_timers_without_end(self):
        for rounds in (1, 2, 7, 40):
            yard = yard_of([("clock", 0)], clock=CLOCK)
            yard.quiet(rounds)
            self.assertEqual(yard.house().inputs()[1:], [("tick", 5 * k) for k in range(1, rounds + 1)])
            self.assertEqual(yard.house().moment(), 5 * rounds)
            self.assertEqual(yard.house().next_due(), 5 * rounds + 5)

    def test_twice(self):
        yard = yard_of([("clock", 0)], clock=CLOCK)
        yard.quiet(3)
        yard.quiet(2)
        self.assertEqual(yard.house().moment(), 25)


class Own(unittest.TestCase):
    def test_lists_told_are_the_askers(self):
        yard = yard_of([("bake", 5), ("bake", 6)], bake=BAKE)
        yard.move(0)
        yard.move(0)
        yard.move(0)
        for ask in (yard.road, yard.deeds):
            first = ask()
            before = list(first)
            self.assertIsNot(first, ask())
            first.clear()
            self.assertEqual(ask(), before)
        road = yard.road()
        deeds = yard.deeds()
        before = (list(road), list(deeds))
        yard.quiet(3)
        self.assertEqual((road, deeds), before)

    def test_what_is_handed_in_is_neither_changed_nor_kept(self):
        given = programs(bake=BAKE)
        trade = dict(TRADE)
        starts = [("bake", 5), ("bake", 6)]
        yard = Yard(given, trade, starts)
        yard.move(0)
        yard.move(-1)
        yard.move(0)
        self.assertEqual(starts, [("bake", 5), ("bake", 6)])
        self.assertEqual(trade, TRADE)
        self.assertEqual(given, programs(bake=BAKE))
        yard = Yard(given, trade, starts)
        starts.append(("bake", 7))
        starts[0] = ("no", 1)
        trade.clear()
        given["bake"] = ()
        yard.move(0)
        yard.move(yard.moves() - 1)
        self.assertEqual(yard.house().program("bake"), read_program(BAKE))
        yard.quiet(5)
        self.assertEqual(yard.house().inputs()[:2], [("start", 0, "bake", 5), ("start", 0, "bake", 6)])
        self.assertEqual([deed[4] for deed in yard.deeds()], [105, 106])


if __name__ == "__main__":
    unittest.main()
