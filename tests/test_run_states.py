import unittest

from outlast.readers import read_program
from outlast.runs import Run


def begun(text, arg=None, moment=0):
    run = Run(read_program(text))
    run.take(("begin", moment, arg))
    return run


def is_all_tuples(thing):
    if isinstance(thing, tuple):
        return all(is_all_tuples(part) for part in thing)
    return thing is None or type(thing) in (int, str)


class States(unittest.TestCase):
    def stands(self, run, state):
        self.assertEqual(run.state(), state)
        self.assertTrue(is_all_tuples(run.state()))
        self.assertEqual(run.waits(), state[0] if isinstance(state[0], tuple) else state)


class Short(States):
    def test_new(self):
        self.stands(Run(()), ("new",))
        run = Run(read_program("a = hear k\n"))
        run.take(("letter", 5, "k", 1))
        self.stands(run, ("new",))

    def test_ended(self):
        self.stands(begun(""), ("ended", None))
        self.stands(begun("a = 5\nend a\n"), ("ended", 5))
        self.stands(begun("a = order w 1\nend 0\n", 7, 8), ("ended", 0))

    def test_worn(self):
        self.stands(begun("a = order w 1\nwhile 1\ndone\n"), ("worn",))


class Whole(States):
    def test_a_hear(self):
        self.stands(begun("a = hear k\n", 5, 6), (("hear", "k"), (0,), 5, 6, (), 0, (), (), ()))

    def test_a_wait(self):
        self.stands(begun("a = order w 1\nb = wait a\n", None, 6),
                    (("wait", (0,)), (1,), None, 6, (("a", 0),), 1, (0,), (), ()))

    def test_the_fields_one_by_one(self):
        run = begun("zb = order w 1\nc = timer 5\na = child p 1\nd = order w 1\ndrop d\ne = 4\ne = none\n"
                    "f = wait c zb\ng = wait a\n", -3, 100)
        names = (("a", 2), ("c", 1), ("d", 3), ("zb", 0))
        self.stands(run, (("wait", (0, 1)), (7,), -3, 100, names, 4, (0, 1, 2), (), ()))
        run.take(("letter", 90, "y", 1))
        run.take(("letter", 110, "b", None))
        run.take(("letter", 105, "y", -2))
        self.stands(run, (("wait", (0, 1)), (7,), -3, 110, names, 4, (0, 1, 2), (),
                          (("b", (None,)), ("y", (1, -2)))))
        run.take(("done", 111, 1, 50))
        names = (("a", 2), ("c", 1), ("d", 3), ("f", 1), ("zb", 0))
        self.stands(run, (("wait", (2,)), (8,), -3, 111, names, 4, (0, 2), ((1, 50),),
                          (("b", (None,)), ("y", (1, -2)))))
        run.take(("done", 112, 0, None))
        self.stands(run, (("wait", (2,)), (8,), -3, 112, names, 4, (2,), ((1, 50), (0, None)),
                          (("b", (None,)), ("y", (1, -2)))))
        run.take(("done", 113, 2, None))
        self.stands(run, ("ended", None))

    def test_names_without_worths_are_left_out(self):
        run = begun("a = 0\nb = none\nc = 1\nc = gone\nd = hear k\n")
        self.stands(run, (("hear", "k"), (4,), None, 0, (("a", 0),), 0, (), (), ()))

    def test_names_rise_as_texts(self):
        run = begun("b = 1\nab = 2\na = 3\nba = 4\nz = 5\naz = 6\nd = hear k\n")
        self.assertEqual(run.state()[4], (("a", 3), ("ab", 2), ("az", 6), ("b", 1), ("ba", 4), ("z", 5)))

    def test_keys_whose_letters_are_all_heard_are_left_out(self):
        run = begun("a = hear k\nb = hear l\nc = hear l\nd = hear m\n")
        run.take(("letter", 0, "l", 1))
        run.take(("letter", 0, "l", 2))
        run.take(("letter", 0, "aa", 3))
        self.assertEqual(run.state()[8], (("aa", (3,)), ("l", (1, 2))))
        run.take(("letter", 0, "k", 3))
        self.stands(run, (("hear", "m"), (3,), None, 0, (("a", 3), ("b", 1), ("c", 2)), 0, (), (), (("aa", (3,)),)))

    def test_a_letter_heard_at_once_is_in_none(self):
        run = begun("a = hear k\nb = hear k\n")
        run.take(("letter", 0, "k", 1))
        self.stands(run, (("hear", "k"), (1,), None, 0, (("a", 1),), 0, (), (), ()))

    def test_more_than_ten_tickets_rise_as_numbers(self):
        run = begun("while ( a < 11 )\na = order w 1\ndone\nb = wait 10 2\n")
        self.assertEqual(run.state()[0], ("wait", (2, 10)))
        self.assertEqual(run.state()[5:7], (12, tuple(range(12))))
        for ticket in (11, 3, 5):
            run.take(("done", 0, ticket, ticket))
        self.assertEqual(run.state()[6:8], ((0, 1, 2, 4, 6, 7, 8, 9, 10), ((11, 11), (3, 3), (5, 5))))


class Places(States):
    def place(self, text):
        return begun(text).state()[1]

    def test_in_the_program(self):
        self.assertEqual(self.place("a = hear k\n"), (0,))
        self.assertEqual(self.place("a = 1\nb = 1\na = hear k\nc = 1\n"), (2,))

    def test_in_a_while(self):
        self.assertEqual(self.place("while 1\na = hear k\ndone\n"), (0, 0, 0))
        self.assertEqual(self.place("a = 1\nwhile 1\nb = 1\na = hear k\ndone\n"), (1, 0, 1))

    def test_in_an_if(self):
        self.assertEqual(self.place("if 1\na = hear k\nelse\nb = hear l\ndone\n"), (0, 0, 0))
        self.assertEqual(self.place("if 0\na = hear k\nelse\nb = hear l\ndone\n"), (0, 1, 0))
        self.assertEqual(self.place("a = 1\na = 1\nif 0\nelse\na = 1\nb = hear l\ndone\n"), (2, 1, 1))

    def test_within_one_another(self):
        self.assertEqual(self.place("a = 1\nif 0\na = 1\nelse\na = 1\nwhile 1\nb = 1\nb = 1\nif 1\na = hear k\n"
                                    "done\ndone\ndone\n"), (1, 1, 1, 0, 2, 0, 0))
        self.assertEqual(self.place("if 1\nif 0\nelse\nif 1\nif 0\nelse\nif 0\nelse\na = 1\na = hear k\n"
                                    + "done\n" * 5), (0, 0, 0, 1, 0, 0, 0, 1, 0, 1, 1))

    def test_behind_blocks(self):
        self.assertEqual(self.place("if 1\na = 1\ndone\nwhile 0\ndone\nif 0\nelse\na = 1\ndone\na = hear k\n"), (3,))
        self.assertEqual(self.place("while 1\nif 1\na = 1\ndone\nwhile not b\nb = 1\ndone\na = hear k\ndone\n"),
                         (0, 0, 2))

    def test_it_goes_on_from_there(self):
        run = begun("while 1\na = hear k\nif a\nb = hear l\nelse\nb = hear m\nb = hear n\ndone\ndone\n")
        places = [run.state()[1]]
        for key, worth in (("k", 1), ("l", 1), ("k", 0), ("m", 1), ("n", 1), ("k", 1)):
            run.take(("letter", 0, key, worth))
            places.append(run.state()[1])
        self.assertEqual(places, [(0, 0, 0), (0, 0, 1, 0, 0), (0, 0, 0), (0, 0, 1, 1, 0), (0, 0, 1, 1, 1),
                                  (0, 0, 0), (0, 0, 1, 0, 0)])


class EqualStates(States):
    def test_what_may_tell_another_thing_makes_another_state(self):
        texts = "a = order w 1\nb = order w 1\nc = hear k\nd = wait a b\nsend d k arg\nend now\n"
        rows = [[], [("letter", 0, "l", 1)], [("letter", 0, "l", 2)], [("letter", 0, "m", 1)], [("letter", 1, "l", 1)],
                [("done", 0, 0, 1)], [("done", 0, 0, 2)], [("done", 0, 1, 1)], [("done", 0, 0, 1), ("done", 0, 1, 1)],
                [("done", 0, 1, 1), ("done", 0, 0, 1)], [("letter", 0, "l", 1), ("letter", 0, "l", 2)],
                [("letter", 0, "l", 2), ("letter", 0, "l", 1)], [("letter", 0, "k", 1)]]
        states = []
        for row in rows:
            run = begun(texts)
            for happening in row:
                run.take(happening)
            states.append(run.state())
        states.append(begun(texts, 1).state())
        self.assertEqual(len(set(states)), len(rows) + 1)

    def test_the_same_by_other_ways_tells_the_same(self):
        text = "a = order w 1\nb = hear k\nc = hear l\nd = hear m\nend ( ( b + c ) + d )\n"
        one, other = begun(text), begun(text)
        for happening in (("letter", 5, "l", 2), ("letter", 3, "m", 4), ("letter", 4, "n", 7), ("done", 9, 8, 7)):
            one.take(happening)
        for happening in (("letter", 4, "n", 7), ("letter", 5, "m", 4), ("begin", 77, 1), ("letter", 0, "l", 2)):
            other.take(happening)
        self.assertEqual(one.state(), other.state())
        self.assertEqual(one.take(("letter", 0, "k", 1)), [("end", 7)])
        self.assertEqual(other.take(("letter", 0, "k", 1)), [("end", 7)])


if __name__ == "__main__":
    unittest.main()
