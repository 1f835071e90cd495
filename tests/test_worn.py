import unittest

from outlast.runs import Run

ONE = ("number", 1)
A = ("name", "a")
MORE = ("set", "a", ("+", A, ONE))
WORN = ("worn",)


def less_than(n):
    return ("<", A, ("number", n))


def begun(*statements):
    run = Run(tuple(statements))
    return run, run.take(("begin", 0, None))


def idle(many):
    # So many statements of which each is one.
    return [("set", "z", ONE)] * many


class Worn(unittest.TestCase):
    def ends(self, run, told, commands):
        self.assertEqual(told, commands)
        self.assertEqual(run.waits()[0], "ended")

    def is_worn(self, run, told, commands):
        self.assertEqual(told, commands + [WORN])
        self.assertEqual((run.waits(), run.state(), run.open_tickets()), (WORN, WORN, []))
        for happening in (("begin", 9, 1), ("done", 9, 0, 1), ("letter", 9, "k", 1)):
            self.assertEqual(run.take(happening), [])
            self.assertEqual(run.state(), WORN)


class PlainStatements(Worn):
    def test_three_hundred_and_the_end_behind_the_last(self):
        run, told = begun(*idle(299))
        self.ends(run, told, [("end", None)])
        run, told = begun(*idle(300))
        self.ends(run, told, [("end", None)])

    def test_three_hundred_and_one(self):
        run, told = begun(*idle(301))
        self.is_worn(run, told, [])

    def test_the_three_hundredth_is_done(self):
        run, told = begun(*idle(299), ("order", "t", "w", ONE))
        self.ends(run, told, [("order", 0, "w", 1), ("end", None)])
        run, told = begun(*idle(299), ("order", "t", "w", ONE), ("send", ONE, "k", ONE))
        self.is_worn(run, told, [("order", 0, "w", 1)])

    def test_an_end_is_a_statement(self):
        run, told = begun(*idle(299), ("end", ONE))
        self.ends(run, told, [("end", 1)])
        run, told = begun(*idle(300), ("end", ONE))
        self.is_worn(run, told, [])

    def test_each_kind_is_one(self):
        for statement, commands in ((("set", "b", ONE), []), (("order", "b", "w", ONE), [("order", 0, "w", 1)]),
                                    (("timer", "b", ONE), [("timer", 0, 1)]),
                                    (("child", "b", "p", ONE), [("child", 0, "p", 1)]),
                                    (("send", ONE, "k", ONE), [("send", 1, "k", 1)]), (("drop", ONE), []),
                                    (("wait", "b", (ONE,)), []), (("if", ONE, (), ()), []),
                                    (("if", ("none",), (), ()), []), (("while", ("none",), ()), [])):
            run, told = begun(statement, *idle(299))
            self.ends(run, told, commands + [("end", None)])
            run, told = begun(statement, *idle(300))
            self.is_worn(run, told, commands)

    def test_commands_told_ahead_stay_told(self):
        run, told = begun(("while", ONE, (("order", "t", "w", A), MORE)))
        # Looks are the 1st, 4th, .. 298th; a hundred orders, a hundred sets.
        self.is_worn(run, told, [("order", k, "w", k or None) for k in range(100)])


class Looks(Worn):
    def test_a_while_without_lines(self):
        run, told = begun(("while", ONE, ()))
        self.is_worn(run, told, [])

    def test_each_look_of_a_while_is_one(self):
        # 149 times two, and a look that ends it: 299.
        run, told = begun(("while", less_than(149), (MORE,)), ("send", A, "k", ONE))
        self.ends(run, told, [("send", 149, "k", 1), ("end", None)])
        run, told = begun(("while", less_than(149), (MORE,)), ("send", A, "k", ONE), ("send", A, "l", ONE))
        self.is_worn(run, told, [("send", 149, "k", 1)])
        run, told = begun(("while", less_than(150), (MORE,)))
        self.is_worn(run, told, [])

    def test_a_look_as_the_three_hundredth(self):
        run, told = begun(*idle(1), ("while", less_than(149), (MORE,)))
        self.ends(run, told, [("end", None)])
        run, told = begun(*idle(1), ("while", less_than(149), (MORE,)), *idle(1))
        self.is_worn(run, told, [])
        run, told = begun(*idle(299), ("while", ONE, (("end", ONE),)))
        self.is_worn(run, told, [])
        run, told = begun(*idle(299), ("while", ("none",), (("end", ONE),)))
        self.ends(run, told, [("end", None)])
        run, told = begun(*idle(299), ("while", ONE, ()))
        self.is_worn(run, told, [])
        run, told = begun(*idle(298), ("while", ONE, (("end", ONE),)))
        self.ends(run, told, [("end", 1)])

    def test_an_if_as_the_three_hundredth(self):
        for worth in (ONE, ("none",)):
            run, told = begun(*idle(299), ("if", worth, (("end", ONE),), (("end", ONE),)))
            self.is_worn(run, told, [])
            run, told = begun(*idle(298), ("if", worth, (("end", ONE),), (("end", ONE),)))
            self.ends(run, told, [("end", 1)])
            run, told = begun(*idle(299), ("if", worth, (), ()))
            self.ends(run, told, [("end", None)])

    def test_leaving_blocks_is_none(self):
        inner = ("if", ONE, (("if", ("none",), (), tuple(idle(297))),), ())
        run, told = begun(inner, *idle(1))
        self.ends(run, told, [("end", None)])
        run, told = begun(inner, *idle(2))
        self.is_worn(run, told, [])

    def test_a_while_around_is_looked_at_again(self):
        # The look behind the three hundredth would be one more.
        run, told = begun(("while", ("not", A), tuple(idle(298)) + (MORE,)))
        self.is_worn(run, told, [])
        run, told = begun(("while", ("not", A), tuple(idle(297)) + (MORE,)))
        self.ends(run, told, [("end", None)])


class Waiting(Worn):
    ORDER = ("order", "t", "w", ONE)
    WAIT = ("wait", "b", (("name", "t"),))

    def test_a_wait_as_the_three_hundredth_still_waits(self):
        run, told = begun(self.ORDER, *idle(298), self.WAIT, *idle(300))
        self.assertEqual(told, [("order", 0, "w", 1)])
        self.assertEqual(run.waits(), ("wait", (0,)))
        self.assertEqual(run.open_tickets(), [0])
        self.ends(run, run.take(("done", 0, 0, 1)), [("end", None)])

    def test_a_wait_behind_it_does_not(self):
        run, told = begun(self.ORDER, *idle(299), self.WAIT)
        self.is_worn(run, told, [("order", 0, "w", 1)])

    def test_a_wait_counts_where_it_is_come_to_not_where_it_is_left(self):
        run, told = begun(self.ORDER, self.WAIT, *idle(300))
        self.ends(run, run.take(("done", 0, 0, 1)), [("end", None)])
        run, told = begun(self.ORDER, self.WAIT, *idle(301))
        self.is_worn(run, run.take(("done", 0, 0, 1)), [])

    def test_a_wait_that_goes_on_at_once(self):
        run, told = begun(*idle(299), ("wait", "b", (ONE,)))
        self.ends(run, told, [("end", None)])
        run, told = begun(*idle(299), ("wait", "b", (ONE,)), *idle(1))
        self.is_worn(run, told, [])
        done = (self.ORDER, self.WAIT, *idle(299), self.WAIT)
        run, told = begun(*done)
        self.ends(run, run.take(("done", 0, 0, 1)), [("end", None)])
        run, told = begun(*done, *idle(1))
        self.is_worn(run, run.take(("done", 0, 0, 1)), [])

    def test_a_hear_as_the_three_hundredth_still_waits(self):
        run, told = begun(*idle(299), ("hear", "h", "k"), *idle(300))
        self.assertEqual((told, run.waits()), ([], ("hear", "k")))
        self.ends(run, run.take(("letter", 0, "k", 1)), [("end", None)])

    def test_a_hear_behind_it_does_not(self):
        run, told = begun(*idle(300), ("hear", "h", "k"))
        self.is_worn(run, told, [])

    def test_a_hear_counts_where_it_is_come_to_not_where_it_is_left(self):
        run, told = begun(("hear", "h", "k"), *idle(300))
        self.ends(run, run.take(("letter", 0, "k", 1)), [("end", None)])
        run, told = begun(("hear", "h", "k"), *idle(301))
        self.is_worn(run, run.take(("letter", 0, "k", 1)), [])

    def test_a_hear_that_goes_on_at_once(self):
        for more, worn in ((0, False), (1, True)):
            run, _ = begun(("hear", "h", "k"), *idle(299), ("hear", "h", "l"), *idle(more))
            self.assertEqual(run.take(("letter", 0, "l", 1)), [])
            told = run.take(("letter", 0, "k", 1))
            if worn:
                self.is_worn(run, told, [])
            else:
                self.ends(run, told, [("end", None)])

    def test_each_happening_counts_anew(self):
        run, told = begun(("while", ONE, tuple(idle(298)) + (("hear", "h", "k"),)))
        self.assertEqual(told, [])
        # The hear is left; then a look, 298 and the hear again: three hundred.
        for k in range(20):
            self.assertEqual(run.take(("letter", k, "k", 1)), [])
            self.assertEqual(run.waits(), ("hear", "k"))
        run, told = begun(("while", ONE, tuple(idle(299)) + (("hear", "h", "k"),)))
        self.is_worn(run, told, [])

    def test_happenings_at_which_it_does_not_go_on_change_nothing(self):
        run, _ = begun(self.ORDER, ("hear", "h", "k"), *idle(300))
        run.take(("letter", 0, "l", 1))
        run.take(("done", 0, 0, 1))
        self.ends(run, run.take(("letter", 0, "k", 1)), [("end", None)])


if __name__ == "__main__":
    unittest.main()
