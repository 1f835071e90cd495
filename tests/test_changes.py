import copy
import inspect
import unittest

from outlast.changes import changed, part_at
from outlast.logs import run_again
from outlast.readers import read_program
from outlast.runs import Run

OLD = read_program("""a = order bake arg
t = timer 60
w = wait a t
if ( w = t )
drop a
end none
done
k = hear key
end ( k + answer a )
""")

# Tells the same, but for what becomes of it where a letter of more than 5 is heard.
LATER = read_program("""a = order bake arg
t = timer 60
w = wait a t
if ( w = t )
drop a
end none
done
k = hear key
if ( 5 < k )
send 0 much k
done
end ( k + answer a )
""")

FIRST = read_program("a = order bake ( arg + 1 )\nt = timer 60\nw = wait a t\n")

SAME = read_program("t = none\na = order bake arg\nt = timer 60\nw = wait t a\nif not ( w = a )\ndrop 0\nend none\n"
                    "done\nx = hear key\nend ( answer 0 + x )\n")

ROW = [("letter", 3, "key", 1), ("begin", 10, 3), ("letter", 11, "other", None), ("done", 12, 0, 4),
       ("letter", 13, "key", 6)]


class Interface(unittest.TestCase):
    def test_arguments(self):
        self.assertEqual(list(inspect.signature(part_at).parameters), ["one", "other", "happenings"])
        self.assertEqual(list(inspect.signature(changed).parameters), ["old", "new", "happenings"])

    def test_kinds(self):
        self.assertIsNone(part_at((), (), []))
        told = part_at(OLD, FIRST, ROW)
        self.assertIs(type(told), tuple)
        self.assertEqual([type(part) for part in told], [int, list, list])
        told = changed(OLD, FIRST, ROW)
        self.assertIs(type(told), tuple)
        self.assertEqual([type(part) for part in told], [str, int, list, list])
        self.assertEqual([type(part) for part in changed(OLD, OLD, ROW)], [str, Run])


class Partings(unittest.TestCase):
    def parts(self, one, other, row, told):
        self.assertEqual(part_at(one, other, row), told)
        self.assertEqual(changed(one, other, row), ("parts",) + told)
        back = (told[0], told[2], told[1])
        self.assertEqual(part_at(other, one, row), back)
        self.assertEqual(changed(other, one, row), ("parts",) + back)

    def parts_nowhere(self, one, other, row):
        self.assertIsNone(part_at(one, other, row))
        self.assertIsNone(part_at(other, one, row))
        for old, new in ((one, other), (other, one)):
            told = changed(old, new, row)
            self.assertEqual((type(told), len(told), told[0]), (tuple, 2, "let"))
            self.assertEqual(told[1].state(), run_again(new, row)[0].state())

    def test_at_the_first_happening(self):
        self.parts(OLD, FIRST, ROW[1:], (0, [("order", 0, "bake", 3), ("timer", 1, 70)],
                                         [("order", 0, "bake", 4), ("timer", 1, 70)]))

    def test_the_number_counts_what_is_passed_over(self):
        self.parts(OLD, FIRST, ROW, (1, [("order", 0, "bake", 3), ("timer", 1, 70)],
                                     [("order", 0, "bake", 4), ("timer", 1, 70)]))

    def test_at_a_later_one(self):
        self.parts(OLD, LATER, ROW, (4, [("end", 10)], [("send", 0, "much", 6), ("end", 10)]))

    def test_at_the_first_of_several(self):
        one = read_program("while 1\na = hear k\nsend 0 s a\ndone\n")
        other = read_program("while 1\na = hear k\nsend 0 s ( a * a )\ndone\n")
        row = [("begin", 0, 0)] + [("letter", 0, "k", worth) for worth in (0, 1, 2, 3, 1, 4)]
        self.parts(one, other, row, (3, [("send", 0, "s", 2)], [("send", 0, "s", 4)]))
        self.parts_nowhere(one, other, row[:3])
        self.parts(one, other, row[:4], (3, [("send", 0, "s", 2)], [("send", 0, "s", 4)]))

    def test_commands_against_none(self):
        one = read_program("a = hear k\nsend 0 s a\nb = hear k\n")
        other = read_program("a = hear k\nb = hear k\n")
        row = [("begin", 0, 0), ("letter", 0, "k", 3)]
        self.parts(one, other, row, (1, [("send", 0, "s", 3)], []))

    def test_the_end_alone(self):
        self.parts(read_program("end 1\n"), read_program("end none\n"), ROW, (1, [("end", 1)], [("end", None)]))
        self.parts(read_program("end 0\n"), (), ROW, (1, [("end", 0)], [("end", None)]))
        self.parts((), read_program("a = hear key\n"), ROW, (1, [("end", None)], []))

    def test_worn_against_ended(self):
        self.parts(read_program("while 1\ndone\n"), (), [("begin", 0, 0)], (0, [("worn",)], [("end", None)]))

    def test_the_order_of_commands(self):
        one = read_program("send 0 a 1\nsend 0 b 2\n")
        other = read_program("send 0 b 2\nsend 0 a 1\n")
        self.parts(one, other, [("begin", 0, 0)], (
            0, [("send", 0, "a", 1), ("send", 0, "b", 2), ("end", None)],
            [("send", 0, "b", 2), ("send", 0, "a", 1), ("end", None)]))

    def test_nowhere(self):
        self.parts_nowhere(OLD, OLD, ROW)
        self.parts_nowhere(OLD, SAME, ROW)
        self.parts_nowhere(OLD, LATER, ROW[:4])
        self.parts_nowhere(OLD, LATER, ROW[:4] + [("letter", 13, "key", 5)])
        self.parts_nowhere(OLD, LATER, ROW[:3] + [("done", 12, 1, None), ("letter", 13, "key", 6)])

    def test_other_states_are_no_parting(self):
        one = read_program("a = 1\nb = hear k\nend a\n")
        other = read_program("a = 2\nc = hear l\nend a\n")
        self.parts_nowhere(one, other, [("begin", 0, 0), ("letter", 1, "m", 1)])
        self.parts(one, other, [("begin", 0, 0), ("letter", 1, "k", 1)], (1, [("end", 1)], []))
        self.parts(one, other, [("begin", 0, 0), ("letter", 1, "l", 1)], (1, [], [("end", 2)]))

    def test_an_empty_row(self):
        for one in (OLD, FIRST, ()):
            for other in (OLD, LATER, ()):
                self.parts_nowhere(one, other, [])
                self.assertEqual(changed(one, other, [])[1].waits(), ("new",))

    def test_a_row_that_is_passed_over(self):
        row = [("letter", 3, "key", 1), ("done", 4, 0, 1), ("letter", 3, "key", 1)]
        self.parts_nowhere(OLD, FIRST, row)
        self.parts_nowhere(OLD, (), row)

    def test_behind_the_end_nothing_parts(self):
        one = read_program("end 1\na = 1\n")
        other = read_program("a = 1\nend a\n")
        self.parts_nowhere(one, other, ROW + ROW)


class Let(unittest.TestCase):
    def test_it_goes_on_as_one_of_the_new_program(self):
        for many in range(len(ROW)):
            told = changed(OLD, LATER, ROW[:many])
            self.assertEqual(told[0], "let")
            run = told[1]
            self.assertEqual(run.state(), run_again(LATER, ROW[:many])[0].state())
            commands = [run.take(happening) for happening in ROW[many:]]
            self.assertEqual(commands, run_again(LATER, ROW)[1][many:])
        self.assertEqual(commands, [[("send", 0, "much", 6), ("end", 10)]])

    def test_it_is_a_new_one_each_time(self):
        one = changed(OLD, LATER, ROW[:3])[1]
        other = changed(OLD, LATER, ROW[:3])[1]
        one.take(("done", 50, 1, None))
        self.assertEqual(one.waits(), ("ended", None))
        self.assertEqual(other.waits(), ("wait", (0, 1)))

    def test_behind_its_end(self):
        one = read_program("end arg\n")
        run = changed(one, read_program("a = arg\nend a\n"), ROW)[1]
        self.assertEqual(run.waits(), ("ended", 3))


class NothingElseIsChanged(unittest.TestCase):
    def test_what_was_handed_in(self):
        row = copy.deepcopy(ROW)
        for other in (OLD, FIRST, LATER, SAME):
            old = copy.deepcopy(OLD)
            new = copy.deepcopy(other)
            part_at(old, new, row)
            changed(old, new, row)
            self.assertEqual((old, new, row), (OLD, other, ROW))

    def test_lists_told_are_the_askers_own(self):
        one = read_program("send 0 a 1\na = hear k\n")
        other = read_program("send 0 b 1\na = hear k\n")
        row = [("begin", 0, 0)]
        for asked, told in ((part_at, (0, [("send", 0, "a", 1)], [("send", 0, "b", 1)])),
                            (changed, ("parts", 0, [("send", 0, "a", 1)], [("send", 0, "b", 1)]))):
            found = asked(one, other, row)
            self.assertIsNot(found[-1], found[-2])
            again = asked(one, other, row)
            self.assertIsNot(found[-1], again[-1])
            found[-1].append(1)
            found[-2].clear()
            self.assertEqual(again, told)
            self.assertEqual(asked(one, other, row), told)

    def test_a_row_changed_behind_the_call(self):
        row = list(ROW[:3])
        run = changed(OLD, LATER, row)[1]
        state = run.state()
        row.append(ROW[3])
        row.pop(0)
        self.assertEqual(run.state(), state)
        run.take(ROW[3])
        self.assertEqual(row, [ROW[1], ROW[2], ROW[3]])


if __name__ == "__main__":
    unittest.main()
