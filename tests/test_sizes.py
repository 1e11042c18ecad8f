"""Point 9: sizes."""

import itertools
import unittest

from dequelogs.errors import Conflict, NoItem, NoPlace, NoWorker
from dequelogs.graph import reason
from dequelogs.sizes import can_be_empty, can_meet, empty_moment, greatest_size, size_range
from oracle import (all_places, all_runs, chance_cases, deques_of, example, great_logs, is_true_run, places_of,
                    small_cases)
from wrong import STRANGE, WRONG_PLACES

CONFLICT = [(("a", 4), ("a", 0))]
WRONG_WORKERS = STRANGE + [
    "ab", ("a",), ("a", "b"), {"a": 1}, ["b", "a"], ["a", "a"], ["a", "b", "b"], ["a", "b", "a"], ["c"], ["a", "c"],
    [""], ["A"], ["a "], ["ab"], [None], [True], [0], ["a", None], ["a", 0], [["a"]], [("a",)], [{"a": 1}],
    ["a", ["b"]], [("a", 0)], ["x"]]


def pushed_items(logs):
    return [entry[1] for log in logs.values() for entry in log if entry[0] == "push"]


class Examples(unittest.TestCase):
    def test_sizes(self):
        self.assertEqual(size_range(example(), [], "a", ("a", 2)), (1, 2))
        self.assertEqual(size_range(example(), [], "a", ("a", 4)), (0, 0))
        self.assertEqual(greatest_size(example(), [], "a"), 2)

    def test_can_meet(self):
        self.assertIs(can_meet(example(), [], "x", "y"), True)
        self.assertIs(can_meet(example(), [], "x", "z"), True)
        self.assertIs(can_meet(example(), [], "y", "z"), False)

    def test_empty(self):
        self.assertIs(can_be_empty(example(), [], ["a"], ("a", 0), ("a", 3)), True)
        self.assertIs(can_be_empty(example(), [], ["a"], ("a", 1), ("a", 2)), False)
        self.assertIs(empty_moment(example(), [], ["a"], ("a", 1), ("a", 2)), None)


class SizeRange(unittest.TestCase):
    def test_each_place_of_the_example(self):
        found = [size_range(example(), [], "a", place) for place in all_places(example())]
        self.assertEqual(found, [(0, 0), (0, 1), (1, 2), (0, 1), (0, 0), (1, 2), (1, 1)])
        found = [size_range(example(), [], "b", place) for place in all_places(example())]
        self.assertEqual(found, [(0, 0)] * 7)

    def test_place_of_another_worker(self):
        logs = {"a": [("push", item) for item in "vwxyz"], "b": [("size", 0)] * 2, "c": [("steal", "a", "v")]}
        self.assertEqual(size_range(logs, [], "a", ("b", 1)), (0, 5))
        self.assertEqual(size_range(logs, [], "a", ("c", 0)), (1, 5))
        self.assertEqual(size_range(logs, [(("a", 2), ("b", 0))], "a", ("b", 1)), (2, 5))
        self.assertEqual(size_range(logs, [(("b", 1), ("a", 2)), (("a", 0), ("b", 1))], "a", ("b", 1)), (0, 2))
        self.assertEqual(size_range(logs, [(("c", 0), ("b", 1))], "a", ("b", 1)), (0, 4))

    def test_size_between(self):
        logs = {"a": [("push", "x"), ("push", "y"), ("pop", "y"), ("pop", "x")], "b": [("size", 0)]}
        self.assertEqual(size_range(logs, [], "a", ("b", 0)), (0, 2))
        facts = [(("a", 0), ("b", 0)), (("b", 0), ("a", 3))]
        self.assertEqual(size_range(logs, facts, "a", ("b", 0)), (1, 2))

    def test_greatest_size_after_the_last_entry(self):
        self.assertEqual(greatest_size({"a": [("push", "x")]}, [], "a"), 1)
        self.assertEqual(greatest_size({"a": [("push", "x")], "b": []}, [], "b"), 0)
        self.assertEqual(greatest_size({"a": []}, [], "a"), 0)

    def test_facts_bound_the_greatest_size(self):
        logs = {"a": [("push", "x"), ("push", "y"), ("push", "z")], "b": [("steal", "a", "x"), ("steal", "a", "y")]}
        self.assertEqual(greatest_size(logs, [], "a"), 3)
        self.assertEqual(greatest_size(logs, [(("b", 0), ("a", 2))], "a"), 2)
        self.assertEqual(greatest_size(logs, [(("b", 0), ("a", 1)), (("b", 1), ("a", 2))], "a"), 1)


class Meet(unittest.TestCase):
    def test_an_item_meets_itself(self):
        for item in "xyz":
            self.assertIs(can_meet(example(), [], item, item), True)

    def test_either_order(self):
        logs = {"a": [("push", "x"), ("pop", "x")], "b": [("push", "y"), ("pop", "y")]}
        self.assertTrue(can_meet(logs, [], "x", "y"))
        for one, other in ((("a", 1), ("b", 0)), (("b", 1), ("a", 0))):
            self.assertIs(can_meet(logs, [(one, other)], "x", "y"), False)
            self.assertIs(can_meet(logs, [(one, other)], "y", "x"), False)

    def test_items_of_several_deques(self):
        logs = {"a": [("push", "x")], "b": [("steal", "a", "x"), ("push", "y")], "c": [("steal", "b", "y")]}
        self.assertIs(can_meet(logs, [], "x", "y"), False)
        logs["b"] = logs["b"][::-1]
        self.assertIs(can_meet(logs, [], "x", "y"), True)
        self.assertIs(can_meet(logs, [(("c", 0), ("a", 0))], "x", "y"), False)

    def test_items_that_nobody_removes(self):
        logs = {"a": [("push", "x")], "b": [("push", "y"), ("pop", "y"), ("push", "z")]}
        facts = [(("b", 1), ("a", 0))]
        self.assertTrue(can_meet(logs, facts, "x", "z"))
        self.assertFalse(can_meet(logs, facts, "x", "y"))

    def test_items(self):
        for item in ("", "q", "a", "b", "X", "xx", "x ", "push", "x" * 4000):
            for call in (lambda: can_meet(example(), [], item, "x"), lambda: can_meet(example(), [], "x", item),
                         lambda: can_meet(example(), CONFLICT, item, item),
                         lambda: can_meet(example(), CONFLICT, "x", item)):
                with self.assertRaises(NoItem):
                    call()


class Empty(unittest.TestCase):
    def test_before_the_first_and_after_the_last_entry(self):
        logs = {"a": [("push", "x"), ("pop", "x")], "b": [("push", "y")]}
        self.assertEqual(empty_moment(logs, [], ["a", "b"], None, ("b", 0))[1], 0)
        self.assertTrue(can_be_empty(logs, [], ["a", "b"], None, ("a", 0)))
        run, count = empty_moment(logs, [], ["a"], ("b", 0), None)
        self.assertTrue(is_true_run(logs, [], run))
        run, count = empty_moment(logs, [(("b", 0), ("a", 0))], ["a"], ("a", 1), None)
        self.assertEqual([run, count], [["b", "a", "a"], 3])
        self.assertFalse(can_be_empty(logs, [], ["b"], ("b", 0), None))

    def test_no_places(self):
        for workers in ([], ["a"], ["b"], ["a", "b"]):
            self.assertIs(can_be_empty(example(), [], workers, None, None), True)
            run, count = empty_moment(example(), [], workers, None, None)
            self.assertTrue(is_true_run(example(), [], run))

    def test_no_workers(self):
        self.assertIs(can_be_empty(example(), [], [], ("a", 1), ("a", 2)), True)
        run, count = empty_moment(example(), [], [], ("a", 1), ("a", 2))
        self.assertEqual(run[:count].count("a"), 2)
        self.assertIs(can_be_empty(example(), [], [], ("a", 2), ("a", 1)), False)
        self.assertIs(can_be_empty(example(), [], [], ("a", 4), None), True)

    def test_same_place(self):
        for place in all_places(example()):
            for workers in ([], ["a"], ["a", "b"]):
                self.assertIs(can_be_empty(example(), [], workers, place, place), False)
                self.assertIs(empty_moment(example(), [], workers, place, place), None)
        with self.assertRaises(Conflict):
            can_be_empty(example(), CONFLICT, [], ("a", 0), ("a", 0))

    def test_no_entries(self):
        logs = {"a": [], "b": []}
        self.assertIs(can_be_empty(logs, [], ["a", "b"], None, None), True)
        self.assertEqual(empty_moment(logs, [], ["a", "b"], None, None), ([], 0))

    def test_items_that_nobody_removes(self):
        logs = {"a": [("push", "x"), ("size", 1)], "b": [("size", 0)]}
        self.assertFalse(can_be_empty(logs, [], ["a"], ("a", 0), None))
        self.assertTrue(can_be_empty(logs, [], ["b"], ("a", 0), None))
        self.assertTrue(can_be_empty(logs, [], ["a"], ("b", 0), None))
        self.assertFalse(can_be_empty(logs, [(("a", 0), ("b", 0))], ["a"], ("b", 0), None))

    def test_all_at_the_same_moment(self):
        logs = {"a": [("push", "w"), ("pop", "w"), ("push", "x"), ("pop", "x")],
                "b": [("push", "y"), ("pop", "y"), ("push", "z")]}
        facts = [(("a", 0), ("b", 0)), (("b", 0), ("a", 1)), (("a", 2), ("b", 1)), (("b", 2), ("a", 3))]
        for workers, expected in ((["a"], True), (["b"], True), (["a", "b"], False)):
            self.assertIs(can_be_empty(logs, facts, workers, ("a", 0), ("b", 2)), expected, workers)

    def test_thieves_may_push_again(self):
        logs = {"a": [("push", "x")], "b": [("steal", "a", "x"), ("push", "y"), ("pop", "y")]}
        self.assertTrue(can_be_empty(logs, [], ["a", "b"], ("a", 0), ("b", 1)))
        self.assertEqual(empty_moment(logs, [], ["a", "b"], ("a", 0), ("b", 1)), (["a", "b", "b", "b"], 2))
        self.assertFalse(can_be_empty(logs, [], ["a", "b"], ("b", 1), ("b", 2)))
        self.assertTrue(can_be_empty(logs, [], ["a"], ("b", 1), ("b", 2)))


class Errors(unittest.TestCase):
    def test_conflicts(self):
        logs = {"a": [("push", "x"), ("size", 0)], "b": []}
        for facts in ([], [(("a", 1), ("a", 0))]):
            for call in (lambda: size_range(logs, facts, "b", ("a", 0)), lambda: greatest_size(logs, facts, "b"),
                         lambda: can_meet(logs, facts, "x", "x"), lambda: can_be_empty(logs, facts, [], None, None),
                         lambda: empty_moment(logs, facts, [], None, None)):
                with self.assertRaises(Conflict) as caught:
                    call()
                self.assertEqual(caught.exception.reason, ("present", "a", 1, "x"))
        with self.assertRaises(Conflict) as caught:
            greatest_size(example(), CONFLICT, "a")
        self.assertEqual(caught.exception.reason, reason(example(), CONFLICT))

    def test_workers(self):
        for workers in WRONG_WORKERS:
            for call in (can_be_empty, empty_moment):
                for after, before in ((None, None), (("a", 0), ("a", 1)), (("q", 0), True)):
                    with self.assertRaises(NoWorker):
                        call(example(), [], workers, after, before)
        for worker in ("", "c", "A", "ab", "a ", "x" * 4000):
            with self.assertRaises(NoWorker):
                greatest_size(example(), CONFLICT, worker)
            for place in (("a", 0), ("a", 9), None):
                with self.assertRaises(NoWorker):
                    size_range(example(), CONFLICT, worker, place)

    def test_places(self):
        for place in WRONG_PLACES:
            with self.assertRaises(NoPlace):
                size_range(example(), CONFLICT, "a", place)
            if place is not None:
                for call in (can_be_empty, empty_moment):
                    for after, before in ((place, None), (None, place), (place, ("a", 0)), (("a", 0), place),
                                          (place, place)):
                        with self.assertRaises(NoPlace):
                            call(example(), CONFLICT, ["a"], after, before)


class Agreement(unittest.TestCase):
    """The answers against all moments of all runs, which are found by replaying."""

    def test_small_logs(self):
        for logs, facts in small_cases():
            self.compare(logs, facts)

    def test_chance_logs(self):
        for logs, facts in chance_cases(21, 100):
            self.compare(logs, facts)

    def compare(self, logs, facts):
        orders = all_runs(logs, facts)
        if not orders:
            with self.assertRaises(Conflict):
                can_be_empty(logs, facts, [], None, None)
            return
        moments = [(order, deques_of(logs, order)) for order in orders]
        for worker in logs:
            self.compare_sizes(logs, facts, worker, moments)
        self.compare_meetings(logs, facts, moments)
        empty = self.empty_moments(logs, moments)
        for after, before in itertools.product([None] + all_places(logs), repeat=2):
            for many in range(len(logs) + 1):
                for workers in itertools.combinations(sorted(logs), many):
                    self.compare_empty(logs, facts, list(workers), after, before, empty)

    def compare_sizes(self, logs, facts, worker, moments):
        for place in all_places(logs):
            found = {len(deques[order.index(place)][worker]) for order, deques in moments}
            self.assertEqual(size_range(logs, facts, worker, place), (min(found), max(found)),
                             (logs, facts, worker, place))
            self.assertEqual(sorted(found), list(range(min(found), max(found) + 1)))
        greatest = max(len(moment[worker]) for order, deques in moments for moment in deques)
        self.assertEqual(greatest_size(logs, facts, worker), greatest, (logs, facts, worker))

    def compare_meetings(self, logs, facts, moments):
        held = [sum(moment.values(), []) for order, deques in moments for moment in deques]
        for item, other in itertools.product(pushed_items(logs), repeat=2):
            expected = any(item in items and other in items for items in held)
            self.assertIs(can_meet(logs, facts, item, other), expected, (logs, facts, item, other))

    def empty_moments(self, logs, moments):
        """The sets of done places, each with the workers whose deques are empty then."""
        return {frozenset(order[:count]): {worker for worker in logs if not moment[worker]}
                for order, deques in moments for count, moment in enumerate(deques)}

    def compare_empty(self, logs, facts, workers, after, before, empty):
        found = empty_moment(logs, facts, workers, after, before)
        expected = any(set(workers) <= hollow and (after is None or after in done) and before not in done
                       for done, hollow in empty.items())
        self.assertIs(can_be_empty(logs, facts, workers, after, before), expected,
                      (logs, facts, workers, after, before))
        self.assertEqual(found is not None, expected)
        if found is not None:
            run, count = found
            self.assertTrue(is_true_run(logs, facts, run))
            done = places_of(run)[:count]
            self.assertEqual(len(done), count)
            self.assertTrue(set(workers) <= empty[frozenset(done)], (logs, facts, workers, after, before))
            self.assertTrue(after is None or after in done)
            self.assertNotIn(before, done)


class Great(unittest.TestCase):
    """Six workers with sixty entries each."""

    def test_sixty_items(self):
        names = [first + second for first in "abcdef" for second in "abcdefghij"]
        logs = {"a": [("push", item) for item in names], "b": [("steal", "a", item) for item in names],
                "c": [("size", 0)] * 60, "d": [], "e": [], "f": [("size", 0)]}
        self.assertEqual(greatest_size(logs, [], "a"), 60)
        self.assertEqual(size_range(logs, [], "a", ("f", 0)), (0, 60))
        self.assertEqual(size_range(logs, [], "a", ("b", 59)), (1, 1))
        self.assertEqual(size_range(logs, [], "a", ("b", 9)), (1, 51))
        self.assertEqual(size_range(logs, [(("a", 49), ("f", 0)), (("f", 0), ("b", 20))], "a", ("f", 0)), (30, 60))
        self.assertTrue(can_meet(logs, [], "aa", "fj"))
        self.assertFalse(can_meet(logs, [(("b", 0), ("a", 59))], "aa", "fj"))
        self.assertEqual(empty_moment(logs, [], ["a", "b", "c", "d", "e", "f"], ("a", 59), ("f", 0))[1], 120)
        self.assertFalse(can_be_empty(logs, [], ["a"], ("a", 59), ("b", 59)))
        logs["a"][59] = ("size", 59)
        logs["b"].pop()
        self.assertEqual(size_range(logs, [], "a", ("b", 58)), (1, 1))
        self.assertEqual(size_range(logs, [], "a", ("b", 0)), (59, 59))

    def test_chance_runs(self):
        for seed in (3, 4):
            logs, order = great_logs(seed)
            facts = list(zip(order[::5], order[3::5]))
            deques = deques_of(logs, order)
            for worker in logs:
                self.assertGreaterEqual(greatest_size(logs, facts, worker), max(len(now[worker]) for now in deques))
                for time in range(0, 360, 45):
                    low, high = size_range(logs, facts, worker, order[time])
                    self.assertTrue(low <= len(deques[time][worker]) <= high <= greatest_size(logs, facts, worker))
            for time in range(10, 360, 50):
                self.compare_moment(logs, facts, order, deques[time], time)

    def compare_moment(self, logs, facts, order, now, time):
        held = sum(now.values(), [])
        for item in held[:6]:
            for other in held[-6:]:
                self.assertTrue(can_meet(logs, facts, item, other))
        workers = [worker for worker in sorted(logs) if not now[worker]]
        run, count = empty_moment(logs, facts, workers, order[time - 1], order[time])
        self.assertTrue(is_true_run(logs, facts, run))
        done = places_of(run)[:count]
        self.assertIn(order[time - 1], done)
        self.assertNotIn(order[time], done)
        then = deques_of(logs, done)[-1]
        self.assertEqual([then[worker] for worker in workers], [[]] * len(workers))


if __name__ == "__main__":
    unittest.main()
