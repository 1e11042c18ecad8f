"""Point 8: runs."""

import unittest
from fractions import Fraction

from dequelogs.errors import Conflict, NoFacts, NoLogs, NoNumber, NoPlace, NoRun, TooMany
from dequelogs.graph import needed_after, needed_before, reason
from dequelogs.runs import (is_run, least_run, nth_run, positions, replay, run_count, run_number, run_with,
                            share_before)
from oracle import (all_places, all_runs, chance_cases, deques_of, example, great_logs, is_true_run, small_cases,
                    workers_of)
from wrong import STRANGE, WRONG_PLACES

CONFLICT = [(("a", 4), ("a", 0))]


def sizes(*lengths):
    """Logs without items, of these lengths."""
    return {name: [("size", 0)] * length for name, length in zip("abcdef", lengths)}


class Examples(unittest.TestCase):
    def test_is_run(self):
        self.assertIs(is_run(example(), [], list("aaaabba")), True)
        self.assertIs(is_run(example(), [], list("aaaabab")), False)

    def test_replay(self):
        self.assertEqual(replay({"a": [("push", "x")], "b": [("steal", "a", "x")]}, ["a", "b"]),
                         [{"a": [], "b": []}, {"a": ["x"], "b": []}, {"a": [], "b": []}])

    def test_least_run_and_count(self):
        self.assertEqual(least_run(example(), []), ["a", "a", "a", "a", "b", "b", "a"])
        self.assertEqual(run_count(example(), []), 4)

    def test_numbers(self):
        self.assertEqual(nth_run(example(), [], 1), ["a", "a", "a", "b", "a", "b", "a"])
        self.assertEqual(run_number(example(), [], list("abaaaba")), 3)
        with self.assertRaises(NoNumber):
            nth_run(example(), [], 4)

    def test_share_and_positions(self):
        self.assertEqual(share_before(example(), [], ("b", 0), ("a", 1)), (1, 4))
        self.assertEqual(positions(example(), [], ("b", 0)), (1, 4))

    def test_run_with(self):
        self.assertEqual(run_with(example(), [], ("b", 0), 2), ["a", "a", "b", "a", "a", "b", "a"])
        self.assertIs(run_with(example(), [], ("b", 0), 5), None)

    def test_conflict(self):
        with self.assertRaises(Conflict) as caught:
            least_run({"a": [("push", "x"), ("size", 0)]}, [])
        self.assertEqual(caught.exception.reason, ("present", "a", 1, "x"))

    def test_too_many(self):
        log = [("size", 0)] * 60
        with self.assertRaises(TooMany) as caught:
            run_count({"a": log, "b": log, "c": log}, [])
        self.assertEqual(caught.exception.many, 226981)


class IsRun(unittest.TestCase):
    def test_facts(self):
        fact = (("a", 1), ("b", 0))
        self.assertTrue(is_run(example(), [fact], list("aabaaba")))
        self.assertFalse(is_run(example(), [fact], list("abaaaba")))
        self.assertFalse(is_run(example(), [fact, (("b", 0), ("a", 2)), (("b", 1), ("b", 0))], list("aabaaba")))
        self.assertFalse(is_run(example(), CONFLICT, list("aabaaba")))

    def test_wrong_objects(self):
        good = list("aabaaba")
        wrong = STRANGE + [[], "aabaaba", tuple(good), [good], good[:-1], good + ["a"], good + ["b"], good + ["c"]]
        wrong += [good[:-1] + [last] for last in ("b", "c", "A", "", "aa", None, True, 0, ["a"], ("a",), {"a": 0})]
        wrong += [[("a", 0), ("a", 1), ("b", 0), ("a", 2), ("a", 3), ("b", 1), ("a", 4)], [None] * 7, ["a"] * 7]
        wrong += [good * 285, good + [None], {"a": 5, "b": 2}]
        self.assertTrue(is_run(example(), [], good))
        for thing in wrong:
            self.assertIs(is_run(example(), [], thing), False, thing)

    def test_each_entry_fits(self):
        for logs, run in (
                ({"a": [("push", "x"), ("pop", "x")], "b": []}, "aa"),
                ({"a": [("push", "x"), ("size", 1)], "b": [("steal", "a", "x")]}, "aab"),
                ({"a": [("push", "x"), ("size", 0)], "b": [("steal", "a", "x")]}, "aba"),
                ({"a": [("push", "x"), ("push", "y"), ("pop", "y")], "b": [("steal", "a", "x")]}, "aaba"),
                ({"a": [("push", "x"), ("push", "y"), ("pop", "y")], "b": [("steal", "a", "x")]}, "abaa")):
            self.assertTrue(is_run(logs, [], list(run)))
        for logs, run in (
                ({"a": [("push", "x"), ("push", "y"), ("pop", "x")]}, "aaa"),
                ({"a": [("push", "x"), ("push", "y"), ("pop", "x")], "b": [("steal", "a", "y")]}, "aaba"),
                ({"a": [("push", "x"), ("size", 0)], "b": [("steal", "a", "x")]}, "aab"),
                ({"a": [("push", "x"), ("size", 1)], "b": [("steal", "a", "x")]}, "aba"),
                ({"a": [("push", "x")], "b": [("steal", "a", "x")]}, "ba"),
                ({"a": [("push", "x"), ("push", "y")], "b": [("steal", "a", "y")]}, "aab"),
                ({"a": [("size", 1)]}, "a")):
            self.assertFalse(is_run(logs, [], list(run)))

    def test_no_entries(self):
        self.assertIs(is_run({"a": []}, [], []), True)
        self.assertIs(is_run({"a": [], "b": []}, [], []), True)
        for thing in STRANGE + ["", {}, ["a"], [[]]]:
            self.assertIs(is_run({"a": []}, [], thing), False)
        self.assertIs(is_run({"a": [("size", 0)]}, [], []), False)


class Replay(unittest.TestCase):
    def test_keys_are_ascending(self):
        logs = {"c": [("push", "x"), ("push", "y"), ("pop", "y")], "b": [], "a": [("steal", "c", "x"), ("push", "z")]}
        found = replay(logs, list("ccaac"))
        for deques in found:
            self.assertEqual(list(deques), ["a", "b", "c"])
        self.assertEqual([deques["c"] for deques in found], [[], ["x"], ["x", "y"], ["y"], ["y"], []])
        self.assertEqual(found[-1], {"a": ["z"], "b": [], "c": []})

    def test_no_entries(self):
        self.assertEqual(replay({"b": [], "a": []}, []), [{"a": [], "b": []}])

    def test_wrong_runs(self):
        for run in STRANGE + [[], list("aaaabab"), list("aaaabb"), "aaaabba", tuple("aaaabba")]:
            with self.assertRaises(NoRun):
                replay(example(), run)
        with self.assertRaises(NoRun):
            replay({"a": [("size", 1)]}, ["a"])

    def test_lists_are_new(self):
        found = replay({"a": [("push", "x")], "b": []}, ["a"])
        found[1]["a"].append("y")
        found[0]["b"].append("z")
        self.assertEqual(found, [{"a": [], "b": ["z"]}, {"a": ["x", "y"], "b": []}])


class Numbers(unittest.TestCase):
    def test_no_entries(self):
        logs = {"a": [], "b": []}
        self.assertEqual([least_run(logs, []), run_count(logs, []), nth_run(logs, [], 0)], [[], 1, []])
        self.assertEqual(run_number(logs, [], []), 0)
        for number in (-1, 1):
            with self.assertRaises(NoNumber):
                nth_run(logs, [], number)

    def test_logs_without_a_run(self):
        for logs, facts in ((example(), CONFLICT), ({"a": [("push", "x"), ("size", 0)], "b": []}, []),
                            ({"a": [("size", 1)]}, []), ({"a": [("push", "x"), ("push", "y"), ("pop", "x")]}, []),
                            ({"a": [("steal", "b", "y"), ("push", "x")],
                              "b": [("steal", "a", "x"), ("push", "y")]}, [])):
            self.assertIs(run_count(logs, facts), 0)
            for number in (0, -1, 1):
                with self.assertRaises(NoNumber):
                    nth_run(logs, facts, number)
            run = [worker for worker, index in all_places(logs)]
            with self.assertRaises(NoRun):
                run_number(logs, facts, run)
            with self.assertRaises(Conflict) as caught:
                least_run(logs, facts)
            self.assertEqual(caught.exception.reason, reason(logs, facts))

    def test_wrong_numbers(self):
        for number in (-1, -4, 4, 5, 10 ** 59, -10 ** 59):
            with self.assertRaises(NoNumber):
                nth_run(example(), [], number)
        with self.assertRaises(NoNumber):
            nth_run(example(), [], True)

    def test_wrong_runs(self):
        for run in STRANGE + [[], list("aaaabab"), list("aaaabb"), "aaaabba", tuple("aaaabba")]:
            with self.assertRaises(NoRun):
                run_number(example(), [], run)
        with self.assertRaises(NoRun):
            run_number(example(), [(("b", 0), ("a", 1))], list("aaaabba"))
        self.assertEqual(run_number(example(), [(("b", 0), ("a", 1))], list("abaaaba")), 0)

    def test_order_of_the_dict_does_not_matter(self):
        logs = {"b": example()["b"], "a": example()["a"]}
        self.assertEqual(least_run(logs, []), list("aaaabba"))
        self.assertEqual([nth_run(logs, [], number) for number in range(4)],
                         [list("aaaabba"), list("aaababa"), list("aabaaba"), list("abaaaba")])

    def test_longer_names(self):
        logs = {"ab": [("size", 0)], "b": [("size", 0)], "a": [("size", 0)]}
        self.assertEqual(least_run(logs, []), ["a", "ab", "b"])
        self.assertEqual([nth_run(logs, [], number) for number in range(6)],
                         [["a", "ab", "b"], ["a", "b", "ab"], ["ab", "a", "b"], ["ab", "b", "a"], ["b", "a", "ab"],
                          ["b", "ab", "a"]])

    def test_duplicate_facts(self):
        fact = (("a", 2), ("b", 0))
        self.assertEqual(run_count(example(), [fact] * 200), 2)
        self.assertEqual(share_before(example(), [fact] * 200, ("b", 0), ("a", 3)), (1, 2))
        self.assertEqual(share_before(example(), [fact] * 200, ("a", 2), ("b", 0)), (1, 1))


class Many(unittest.TestCase):
    """The limit of 20,000 cells."""

    def calls(self, logs, facts):
        place, strange = ("a", 0), ("q", 0)
        return [lambda: run_count(logs, facts), lambda: nth_run(logs, facts, 0), lambda: nth_run(logs, facts, -1),
                lambda: run_number(logs, facts, None), lambda: run_number(logs, facts, []),
                lambda: share_before(logs, facts, place, ("a", 1)), lambda: share_before(logs, facts, strange, strange),
                lambda: share_before(logs, facts, place, strange), lambda: share_before(logs, facts, place, place)]

    def many(self, logs, facts, expected):
        for call in self.calls(logs, facts):
            with self.assertRaises(TooMany) as caught:
                call()
            self.assertEqual(caught.exception.many, expected)

    def test_at_the_limit(self):
        logs = sizes(49, 49, 7)
        count = run_count(logs, [])
        self.assertEqual(count, 579888893162396127552285060947177820000)
        for number in (0, 1, count // 3, count - 1):
            run = nth_run(logs, [], number)
            self.assertTrue(is_run(logs, [], run))
            self.assertEqual(run_number(logs, [], run), number)
        self.assertEqual(nth_run(logs, [], 0), ["a"] * 49 + ["b"] * 49 + ["c"] * 7)
        self.assertEqual(nth_run(logs, [], count - 1), ["c"] * 7 + ["b"] * 49 + ["a"] * 49)
        with self.assertRaises(NoNumber):
            nth_run(logs, [], count)
        self.assertEqual(share_before(logs, [], ("a", 0), ("b", 0)), (1, 2))
        self.assertEqual(share_before(logs, [], ("a", 0), ("c", 0)), (7, 8))

    def test_six_workers(self):
        logs = sizes(4, 4, 4, 4, 4, 4)
        self.assertEqual(run_count(logs, []), 3246670537110000)
        self.assertEqual(run_number(logs, [], list("ffffeeeeddddccccbbbbaaaa")), 3246670537110000 - 1)

    def test_above_the_limit(self):
        self.many(sizes(26, 38, 18), [], 20007)
        self.many(sizes(40, 60, 7), [], 20008)
        self.many(sizes(49, 49, 8), [], 22500)
        self.many(sizes(60, 60, 60, 60, 60, 60), [], 61 ** 6)
        self.many(sizes(27, 26, 26), [], 20412)
        self.many({"a": [("size", 0)] * 28, "c": [("size", 0)] * 22, "b": [("size", 0)] * 29}, [], 20010)

    def test_also_without_a_run(self):
        logs = sizes(60, 60, 60)
        self.many(logs, [(("a", 1), ("a", 0))], 226981)
        self.many({"a": [("size", 1)] * 60, "b": [("size", 0)] * 60, "c": [("size", 0)] * 60}, [], 226981)

    def test_directly_after_facts(self):
        logs = sizes(60, 60, 60)
        for facts in (None, [(("a", 0), ("a", 0))], [(("a", 0), ("d", 0))], (), {}):
            for call in self.calls(logs, facts):
                with self.assertRaises(NoFacts):
                    call()
        logs["a"].append(("size", 0))
        for call in self.calls(logs, None):
            with self.assertRaises(NoLogs):
                call()

    def test_only_functions_that_count_have_the_limit(self):
        logs = sizes(60, 60, 60)
        self.assertEqual(least_run(logs, []), ["a"] * 60 + ["b"] * 60 + ["c"] * 60)
        self.assertEqual(positions(logs, [], ("b", 3)), (3, 123))
        self.assertTrue(is_run(logs, [], run_with(logs, [], ("b", 3), 77)))
        self.assertEqual(len(replay(logs, list("abc") * 60)), 181)


class Places(unittest.TestCase):
    def test_same_place(self):
        self.assertEqual(share_before(example(), [], ("a", 0), ("a", 0)), (0, 1))
        self.assertEqual(share_before({"a": [("size", 0)]}, [], ("a", 0), ("a", 0)), (0, 1))
        with self.assertRaises(Conflict):
            share_before(example(), CONFLICT, ("a", 0), ("a", 0))
        with self.assertRaises(NoPlace):
            share_before(example(), CONFLICT, ("a", 5), ("a", 5))

    def test_share_in_lowest_terms(self):
        self.assertEqual(share_before(sizes(2, 2), [], ("a", 0), ("b", 0)), (1, 2))
        self.assertEqual(share_before(sizes(2, 2), [], ("a", 1), ("b", 0)), (1, 6))
        self.assertEqual(share_before(sizes(3, 3), [], ("a", 1), ("b", 1)), (1, 2))
        self.assertEqual(share_before(example(), [], ("a", 4), ("a", 0)), (0, 1))
        self.assertEqual(share_before(example(), [], ("a", 0), ("a", 4)), (1, 1))
        self.assertEqual(share_before(example(), [], ("b", 0), ("a", 2)), (1, 2))

    def test_200_facts_leave_room_for_the_question(self):
        facts = [(("a", 0), ("a", 1))] * 200
        self.assertEqual(share_before(example(), facts, ("b", 0), ("a", 1)), (1, 4))
        self.assertEqual(len(facts), 200)

    def test_positions(self):
        self.assertEqual([positions(example(), [], place) for place in all_places(example())],
                         [(0, 0), (1, 2), (2, 3), (3, 4), (6, 6), (1, 4), (5, 5)])
        self.assertEqual(positions(example(), [(("a", 1), ("b", 0)), (("b", 0), ("a", 3))], ("b", 0)), (2, 3))
        self.assertEqual(positions({"a": [("size", 0)]}, [], ("a", 0)), (0, 0))

    def test_positions_that_an_entry_cannot_have(self):
        for position in (-1, 0, 5, 6, 7, -6, -7, 10 ** 59, -10 ** 59):
            self.assertIs(run_with(example(), [], ("b", 0), position), None)
        for position in (1, 2, 3, 4):
            run = run_with(example(), [], ("b", 0), position)
            self.assertTrue(is_true_run(example(), [], run))
            self.assertEqual(run.index("b"), position)

    def test_conflicts(self):
        logs = {"a": [("push", "x"), ("size", 0)], "b": []}
        for call in (lambda: share_before(logs, [], ("a", 0), ("a", 1)), lambda: positions(logs, [], ("a", 0)),
                     lambda: run_with(logs, [], ("a", 0), 0), lambda: run_with(logs, [], ("a", 0), 9)):
            with self.assertRaises(Conflict) as caught:
                call()
            self.assertEqual(caught.exception.reason, ("present", "a", 1, "x"))

    def test_wrong_places_before_conflicts(self):
        for place in WRONG_PLACES:
            for call in (lambda: share_before(example(), CONFLICT, place, ("a", 0)),
                         lambda: share_before(example(), CONFLICT, ("a", 0), place),
                         lambda: positions(example(), CONFLICT, place),
                         lambda: run_with(example(), CONFLICT, place, 0)):
                with self.assertRaises(NoPlace):
                    call()


class Agreement(unittest.TestCase):
    """The answers against a list of all runs that is made by replaying."""

    def test_small_logs(self):
        for logs, facts in small_cases():
            self.compare(logs, facts)

    def test_chance_logs(self):
        for logs, facts in chance_cases(11, 150):
            self.compare(logs, facts)

    def compare(self, logs, facts):
        orders = sorted(all_runs(logs, facts), key=workers_of)
        self.assertEqual(run_count(logs, facts), len(orders), (logs, facts))
        for number, order in enumerate(orders):
            run = workers_of(order)
            self.assertEqual(nth_run(logs, facts, number), run, (logs, facts))
            self.assertEqual(run_number(logs, facts, run), number, (logs, facts))
            self.assertTrue(is_run(logs, facts, run), (logs, facts))
            self.assertEqual(replay(logs, run), deques_of(logs, order))
        for number in (-1, len(orders)):
            with self.assertRaises(NoNumber):
                nth_run(logs, facts, number)
        for order in all_runs({worker: [("size", 0)] * len(log) for worker, log in logs.items()}, []):
            self.assertIs(is_run(logs, facts, workers_of(order)), order in orders, (logs, facts, order))
        if orders:
            self.assertEqual(least_run(logs, facts), workers_of(orders[0]))
            self.compare_places(logs, facts, orders)

    def compare_places(self, logs, facts, orders):
        for one in all_places(logs):
            times = sorted({order.index(one) for order in orders})
            self.assertEqual(positions(logs, facts, one), (times[0], times[-1]), (logs, facts, one))
            for position in range(-1, len(orders[0]) + 1):
                run = run_with(logs, facts, one, position)
                self.assertEqual(run is not None, position in times, (logs, facts, one, position))
                if run is not None:
                    order = [order for order in orders if workers_of(order) == run][0]
                    self.assertEqual(order.index(one), position, (logs, facts, one))
            for other in all_places(logs):
                first = [order for order in orders if order.index(one) < order.index(other)]
                share = Fraction(len(first), len(orders))
                self.assertEqual(share_before(logs, facts, one, other), (share.numerator, share.denominator))


class Great(unittest.TestCase):
    """Six workers with sixty entries each."""

    def test_chance_runs(self):
        for seed in (1, 2):
            logs, order = great_logs(seed)
            run = workers_of(order)
            facts = list(zip(order[::4], order[2::4]))
            self.assertTrue(is_run(logs, facts, run))
            self.assertFalse(is_run(logs, facts, run[::-1]))
            self.assertEqual(replay(logs, run), deques_of(logs, order))
            least = least_run(logs, facts)
            self.assertTrue(is_true_run(logs, facts, least))
            self.assertLessEqual(least, run)
            for place in order[::60]:
                self.compare_place(logs, facts, order, place)

    def compare_place(self, logs, facts, order, place):
        low, high = positions(logs, facts, place)
        self.assertEqual(low, len(needed_before(logs, facts, place)))
        self.assertEqual(high, 359 - len(needed_after(logs, facts, place)))
        self.assertTrue(low <= order.index(place) <= high)
        for position in (low, (low + high) // 2, high):
            run = run_with(logs, facts, place, position)
            self.assertTrue(is_true_run(logs, facts, run))
            self.assertEqual([run[position], run[:position].count(place[0])], list(place))
        self.assertIsNone(run_with(logs, facts, place, low - 1))
        self.assertIsNone(run_with(logs, facts, place, high + 1))

    def test_one_long_order(self):
        logs = sizes(60, 60, 60, 60, 60, 60)
        facts = [((name, 59), (later, 0)) for name, later in zip("fedcb", "edcba")]
        self.assertEqual(least_run(logs, facts), [name for name in "fedcba" for _ in range(60)])
        self.assertEqual(positions(logs, facts, ("a", 59)), (359, 359))
        self.assertEqual(run_with(logs, facts, ("a", 59), 359), least_run(logs, facts))

    def test_one_long_log(self):
        logs = {"a": [("push", "x")] + [("size", 1)] * 59}
        self.assertEqual([run_count(logs, []), nth_run(logs, [], 0)], [1, ["a"] * 60])
        self.assertEqual(share_before(logs, [], ("a", 3), ("a", 59)), (1, 1))


if __name__ == "__main__":
    unittest.main()
