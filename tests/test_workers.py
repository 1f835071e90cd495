"""A worker: its trade, its deeds, and none of them twice."""

import inspect
import unittest

from outlast.workers import Worker

GREATEST = 10 ** 9


class Interface(unittest.TestCase):
    def test_arguments(self):
        worker = Worker({})
        self.assertEqual(list(inspect.signature(Worker).parameters), ["trade"])
        self.assertEqual(list(inspect.signature(worker.do).parameters), ["run", "ticket", "work", "worth"])
        self.assertEqual(list(inspect.signature(worker.deeds).parameters), [])

    def test_kinds(self):
        worker = Worker({"a": ("sum", 1)})
        self.assertIs(type(worker.do(0, 0, "a", 1)), int)
        self.assertIs(type(worker.deeds()), list)
        self.assertIs(type(worker.deeds()[0]), tuple)


class Sums(unittest.TestCase):
    def sums(self, n, worth, answer):
        worker = Worker({"a": ("sum", n)})
        self.assertEqual(worker.do(0, 0, "a", worth), answer)
        self.assertEqual(worker.deeds(), [(0, 0, "a", worth, answer)])

    def test_ordinary(self):
        self.sums(3, 4, 7)
        self.sums(-3, 4, 1)
        self.sums(0, 0, 0)
        self.sums(0, -7, -7)

    def test_none(self):
        self.sums(3, None, 3)
        self.sums(0, None, 0)
        self.sums(-9, None, -9)

    def test_beyond_the_worths(self):
        self.sums(1, GREATEST, GREATEST)
        self.sums(1, GREATEST - 1, GREATEST)
        self.sums(2, GREATEST - 1, GREATEST)
        self.sums(GREATEST, GREATEST, GREATEST)
        self.sums(-1, -GREATEST, -GREATEST)
        self.sums(-1, 1 - GREATEST, -GREATEST)
        self.sums(-GREATEST, -GREATEST, -GREATEST)
        self.sums(-GREATEST, GREATEST, 0)


class Counts(unittest.TestCase):
    def test_from_one_on(self):
        worker = Worker({"a": ("count",)})
        self.assertEqual([worker.do(0, ticket, "a", 50) for ticket in range(5)], [1, 2, 3, 4, 5])

    def test_each_work_by_itself(self):
        worker = Worker({"a": ("count",), "b": ("count",), "c": ("sum", 1)})
        works = ["a", "b", "c", "a", "no", "a", "b"]
        self.assertEqual([worker.do(ticket, 0, work, 9) for ticket, work in enumerate(works)],
                         [1, 1, 10, 2, None, 3, 2])

    def test_over_all_runs(self):
        worker = Worker({"a": ("count",)})
        self.assertEqual([worker.do(run, 3, "a", None) for run in (5, 0, 7)], [1, 2, 3])

    def test_those_told_again_are_not_counted(self):
        worker = Worker({"a": ("count",)})
        self.assertEqual([worker.do(0, ticket, "a", 1) for ticket in (0, 0, 1, 0, 1, 2)], [1, 1, 2, 1, 2, 3])


class Unknown(unittest.TestCase):
    def test_a_work_that_is_not_there(self):
        worker = Worker({"a": ("sum", 1)})
        self.assertIsNone(worker.do(0, 0, "b", 5))
        self.assertIsNone(Worker({}).do(0, 0, "a", 5))
        self.assertEqual(worker.deeds(), [(0, 0, "b", 5, None)])

    def test_it_is_known_then(self):
        worker = Worker({"a": ("sum", 1)})
        worker.do(0, 0, "b", 5)
        self.assertIsNone(worker.do(0, 0, "a", 5))
        self.assertIsNone(worker.do(0, 0, "b", 5))
        self.assertEqual(worker.deeds(), [(0, 0, "b", 5, None)])


class NoneTwice(unittest.TestCase):
    def test_the_same_again(self):
        worker = Worker({"a": ("sum", 1)})
        self.assertEqual(worker.do(3, 4, "a", 5), 6)
        self.assertEqual(worker.do(3, 4, "a", 5), 6)
        self.assertEqual(worker.deeds(), [(3, 4, "a", 5, 6)])

    def test_with_another_work_or_worth(self):
        worker = Worker({"a": ("sum", 1), "b": ("count",)})
        self.assertEqual(worker.do(3, 4, "a", 5), 6)
        self.assertEqual(worker.do(3, 4, "a", 50), 6)
        self.assertEqual(worker.do(3, 4, "b", 5), 6)
        self.assertEqual(worker.do(3, 4, "no", None), 6)
        self.assertEqual(worker.deeds(), [(3, 4, "a", 5, 6)])
        self.assertEqual(worker.do(0, 0, "b", 0), 1)

    def test_another_run_or_ticket_is_another(self):
        worker = Worker({"a": ("sum", 1)})
        for run, ticket, worth in ((3, 4, 5), (4, 3, 6), (3, 3, 7), (4, 4, 8), (34, 0, 9), (3, 40, 1)):
            self.assertEqual(worker.do(run, ticket, "a", worth), worth + 1)
        self.assertEqual(len(worker.deeds()), 6)


class Deeds(unittest.TestCase):
    def test_as_they_were_done(self):
        worker = Worker({"a": ("sum", 1), "b": ("count",)})
        for run, ticket, work in ((5, 1, "a"), (0, 0, "b"), (5, 0, "c"), (0, 0, "a"), (0, 2, "b"), (5, 1, "b")):
            worker.do(run, ticket, work, None)
        self.assertEqual(worker.deeds(), [(5, 1, "a", None, 1), (0, 0, "b", None, 1), (5, 0, "c", None, None),
                                          (0, 2, "b", None, 2)])

    def test_none(self):
        self.assertEqual(Worker({"a": ("sum", 1)}).deeds(), [])

    def test_the_list_is_the_askers(self):
        worker = Worker({"a": ("sum", 1)})
        worker.do(0, 0, "a", 1)
        first = worker.deeds()
        second = worker.deeds()
        self.assertIsNot(first, second)
        first.clear()
        worker.do(0, 1, "a", 1)
        self.assertEqual(second, [(0, 0, "a", 1, 2)])
        self.assertEqual(worker.deeds(), [(0, 0, "a", 1, 2), (0, 1, "a", 1, 2)])

    def test_the_trade_is_neither_changed_nor_kept(self):
        trade = {"a": ("sum", 1), "b": ("count",)}
        worker = Worker(trade)
        worker.do(0, 0, "a", 1)
        worker.do(0, 1, "b", 1)
        worker.do(0, 2, "no", 1)
        self.assertEqual(trade, {"a": ("sum", 1), "b": ("count",)})
        trade["a"] = ("sum", 100)
        trade["no"] = ("sum", 100)
        trade.pop("b")
        self.assertEqual(worker.do(1, 0, "a", 1), 2)
        self.assertEqual(worker.do(1, 1, "b", 1), 2)
        self.assertIsNone(worker.do(1, 2, "no", 1))

    def test_two_workers_know_nothing_of_one_another(self):
        trade = {"b": ("count",)}
        one = Worker(trade)
        other = Worker(trade)
        one.do(0, 0, "b", 1)
        self.assertEqual(other.deeds(), [])
        self.assertEqual(other.do(0, 0, "b", 1), 1)


if __name__ == "__main__":
    unittest.main()
