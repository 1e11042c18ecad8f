"""Point 10: a worker that only stole, and whose log is lost."""

import itertools
import unittest

from dequelogs.errors import Conflict, NoLogs
from dequelogs.graph import reason
from dequelogs.lost import lost_count, lost_needed, lost_possible, lost_reason, lost_run, shows_lost
from lost_oracle import (is_true_lost_cycle, is_true_lost_run, left_of, lost_cases, lost_certificates, lost_sets,
                         needed_by_words)
from oracle import all_places, example, great_logs, small_logs
from wrong import STRANGE, WRONG_PLACES, wrong_logs

# The lost worker must have stolen x between the two sizes, against their order.
TURNED = {"a": [("push", "x"), ("push", "y"), ("size", 1), ("size", 2)], "b": []}
CROSSED = {"a": [("steal", "b", "y"), ("push", "x")], "b": [("steal", "a", "x"), ("push", "y")]}


def all_candidates(logs):
    """All certificates with an entry, of all forms and of all items, true or not."""
    items = [entry[1] for log in logs.values() for entry in log if entry[0] == "push"]
    found = []
    for worker, index in all_places(logs):
        found += [(word, worker, index) for word in ("newer", "kept", "few", "present")]
        found += [(word, worker, index, item) for word in ("newer", "kept", "few", "present") for item in items]
    return found


class Examples(unittest.TestCase):
    def test_needed_possible_and_count(self):
        logs = {"a": [("push", "x"), ("push", "y"), ("size", 1)], "b": []}
        self.assertEqual(lost_needed(logs), {"a": ["x"], "b": []})
        self.assertEqual(lost_possible(logs), {"a": ["y"], "b": []})
        self.assertEqual(lost_count(logs), 2)

    def test_reason(self):
        logs = {"a": [("push", "x"), ("size", 0), ("pop", "x")]}
        self.assertEqual(lost_reason(logs), ("present", "a", 1, "x"))
        self.assertIs(shows_lost(logs, ("present", "a", 1, "x")), True)

    def test_run(self):
        logs = {"a": [("push", "x"), ("push", "y"), ("size", 1)], "b": []}
        self.assertEqual(len(lost_run(logs)), 4)


class Reason(unittest.TestCase):
    def test_none(self):
        self.assertIs(lost_reason(example()), None)
        self.assertIs(lost_reason({"a": [("push", "x"), ("size", 0)]}), None)
        self.assertIs(lost_reason({"a": []}), None)

    def test_newer(self):
        logs = {"a": [("push", "x"), ("push", "y"), ("push", "z"), ("pop", "x")]}
        self.assertEqual(lost_reason(logs), ("newer", "a", 3, "z"))
        logs["b"] = [("steal", "a", "y"), ("steal", "a", "z")]
        self.assertEqual(lost_reason(logs), ("newer", "a", 3, "z"))

    def test_few(self):
        self.assertEqual(lost_reason({"a": [("push", "x"), ("size", 2)]}), ("few", "a", 1))
        self.assertEqual(lost_reason({"a": [("size", 60)]}), ("few", "a", 0))

    def test_kept_is_no_certificate(self):
        logs = {"a": [("push", "x"), ("push", "y")], "b": [("steal", "a", "y")]}
        self.assertEqual(reason(logs, []), ("kept", "a", 1, "x"))
        self.assertIsNone(lost_reason(logs))
        self.assertIs(shows_lost(logs, ("kept", "a", 1, "x")), False)
        logs["a"].append(("pop", "x"))
        self.assertEqual(lost_reason(logs), ("newer", "a", 2, "y"))
        self.assertIs(shows_lost(logs, ("kept", "a", 1, "x")), False)

    def test_present_names_the_oldest_that_is_popped_later(self):
        logs = {"a": [("push", "v"), ("push", "w"), ("push", "x"), ("push", "y"), ("size", 0), ("pop", "y"),
                      ("pop", "x")], "b": [("steal", "a", "v")]}
        self.assertEqual(lost_reason(logs), ("present", "a", 4, "x"))
        self.assertEqual(reason(logs, []), ("present", "a", 4, "w"))
        logs["a"][4] = ("size", 2)
        self.assertIsNone(lost_reason(logs))
        logs["a"][4] = ("size", 1)
        self.assertEqual(lost_reason(logs), ("present", "a", 4, "x"))

    def test_first_by_worker_then_by_index(self):
        few = [("size", 1)]
        mixed = [("push", "x"), ("push", "y"), ("size", 0), ("pop", "x"), ("pop", "y"), ("size", 3)]
        self.assertEqual(lost_reason({"b": few, "a": mixed}), ("present", "a", 2, "x"))
        self.assertEqual(lost_reason({"a": few, "b": mixed}), ("few", "a", 0))
        self.assertEqual(lost_reason({"c": mixed[:2] + mixed[3:], "b": []}), ("newer", "c", 2, "y"))

    def test_cycles(self):
        for logs in (TURNED, CROSSED, {**TURNED, "b": [("size", 0)], "c": [("push", "z"), ("size", 0)]}):
            word, places = lost_reason(logs)
            self.assertEqual(word, "cycle")
            self.assertIs(type(places), list)
            self.assertTrue(is_true_lost_cycle(logs, places))
            self.assertIs(shows_lost(logs, (word, places)), True)
            self.assertEqual(lost_count(logs), 0)
        self.assertEqual(sorted(lost_reason(TURNED)[1]), [("?", "x"), ("a", 2), ("a", 3)])

    def test_cycle_comes_last(self):
        logs = {**CROSSED, "c": [("push", "z"), ("size", 0), ("pop", "z")]}
        self.assertEqual(lost_reason(logs), ("present", "c", 1, "z"))
        self.assertEqual(lost_reason({**CROSSED, "c": [("push", "z"), ("size", 0)]})[0], "cycle")

    def test_cycle_of_a_kept_item(self):
        logs = {"a": [("push", "x"), ("push", "y"), ("size", 2), ("push", "z")],
                "b": [("steal", "a", "y"), ("push", "v")], "c": [("steal", "b", "v"), ("push", "w")]}
        self.assertIsNone(lost_reason(logs))
        logs["a"].insert(2, ("steal", "c", "w"))
        self.assertEqual(lost_reason(logs)[0], "cycle")
        self.assertTrue(is_true_lost_cycle(logs, lost_reason(logs)[1]))


class Shows(unittest.TestCase):
    def test_other_items(self):
        logs = {"a": [("push", item) for item in "vwxyz"] + [("size", 1), ("pop", "z"), ("pop", "w"), ("pop", "y")]}
        true = [("newer", "a", 7, item) for item in "xy"] + [("present", "a", 5, item) for item in "wy"]
        self.assertEqual([thing for thing in all_candidates(logs) if shows_lost(logs, thing)],
                         [("present", "a", 5, "w"), ("present", "a", 5, "y"), ("newer", "a", 7, "x"),
                          ("newer", "a", 7, "y")])
        self.assertTrue(all(shows_lost(logs, thing) for thing in true))

    def test_cycles(self):
        good = [("?", "x"), ("a", 2), ("a", 3)]
        for places in (good, good[1:] + good[:1], good[2:] + good[:2]):
            self.assertIs(shows_lost(TURNED, ("cycle", places)), True)
        for places in (good[::-1], good[:2], good[1:], good[:1], [], good + good, [("?", "y")] + good[1:],
                       [("?", "z")] + good[1:], [("?", 0)] + good[1:], [("?", "x", "x")] + good[1:],
                       [("?",)] + good[1:], [["?", "x"]] + good[1:], ["?x"] + good[1:], [("!", "x")] + good[1:],
                       [("?", ["x"])] + good[1:], [("?", ("x",))] + good[1:], [("?", None)] + good[1:],
                       [("?", True)] + good[1:], [("", "x")] + good[1:], [(("?",), "x")] + good[1:],
                       [("a", 0), ("a", 1)], [("?", "x"), ("?", "x")]):
            self.assertIs(shows_lost(TURNED, ("cycle", places)), False, places)
        for place in WRONG_PLACES + [("b", 0), ("a", 4)]:
            for at in range(4):
                self.assertIs(shows_lost(TURNED, ("cycle", good[:at] + [place] + good[at:])), False, place)
            self.assertIs(shows_lost(TURNED, ("cycle", [place, place])), False, place)

    def test_cycle_at_any_distance(self):
        logs = {"a": [("push", "x"), ("push", "y"), ("size", 1), ("size", 1), ("size", 1), ("size", 2)]}
        for places in ([("?", "x"), ("a", 2), ("a", 5)], [("?", "x"), ("a", 3), ("a", 5)],
                       [("?", "x"), ("a", 2), ("a", 4), ("a", 5)]):
            self.assertIs(shows_lost(logs, ("cycle", places)), True, places)

    def test_steals_of_the_lost_worker_have_no_order_of_their_own(self):
        logs = {"a": [("push", "x"), ("size", 0)], "b": [("push", "y"), ("size", 0), ("size", 0)],
                "d": [("push", "v"), ("push", "w"), ("size", 1), ("size", 2)]}
        self.assertEqual(lost_reason(logs)[0], "cycle")
        self.assertIs(shows_lost(logs, ("cycle", [("?", "v"), ("d", 2), ("d", 3)])), True)
        for places in ([("?", "x"), ("?", "y")], [("?", "v"), ("?", "y")], [("?", "v"), ("?", "x")],
                       [("?", "v"), ("?", "x"), ("d", 2), ("d", 3)], [("?", "v"), ("?", "y"), ("d", 2), ("d", 3)]):
            self.assertIs(shows_lost(logs, ("cycle", places)), False, places)
        # The push of y comes before that of x, so the steal of y comes first, whatever the names say.
        logs = {"a": [("push", "y"), ("push", "x"), ("size", 0)]}
        self.assertIsNone(lost_reason(logs))
        self.assertIs(shows_lost(logs, ("cycle", [("?", "y"), ("?", "x")])), False)

    def test_steals_that_follow_in_a_deque(self):
        # The needed steals of u and v follow one another, so the size after v and the size before u contradict.
        logs = {"a": [("push", "v"), ("push", "u"), ("push", "t"), ("size", 1), ("size", 3)]}
        for places, expected in (([("?", "v"), ("?", "u"), ("a", 3), ("a", 4)], True),
                                 ([("?", "u"), ("?", "v"), ("a", 3), ("a", 4)], False),
                                 ([("?", "v"), ("a", 3), ("a", 4)], False),
                                 ([("?", "u"), ("a", 3), ("a", 4)], False)):
            self.assertIs(shows_lost(logs, ("cycle", places)), expected, places)

    def test_no_cycle_beside_other_certificates(self):
        good = ("cycle", [("a", 0), ("a", 1), ("b", 0), ("b", 1)])
        self.assertIs(shows_lost(CROSSED, good), True)
        for log, other in (([("size", 1)], ("few", "c", 0)),
                           ([("push", "v"), ("push", "w"), ("pop", "v")], ("newer", "c", 2, "w")),
                           ([("push", "v"), ("size", 0), ("pop", "v")], ("present", "c", 1, "v"))):
            logs = {**CROSSED, "c": log}
            self.assertIs(shows_lost(logs, good), False)
            self.assertIs(shows_lost(logs, other), True)
        logs = {**CROSSED, "c": [("push", "v"), ("push", "w")], "d": [("steal", "c", "w")]}
        self.assertIs(shows_lost(logs, good), True)
        logs["c"] = logs["c"] + [("size", 0)]
        self.assertIs(shows_lost(logs, good), True)

    def test_no_certificate_for_logs_with_a_run(self):
        for logs in (example(), {"a": [("push", "x"), ("push", "y"), ("size", 1)], "b": [("steal", "a", "y")]}):
            for thing in all_candidates(logs) + [None, ("cycle", []), ("cycle", all_places(logs))]:
                self.assertIs(shows_lost(logs, thing), False, thing)

    def test_wrong_objects(self):
        logs = {"a": [("push", "x"), ("push", "y"), ("pop", "x"), ("size", 5)], "b": [("size", 1)]}
        good = [("newer", "a", 2, "y"), ("few", "a", 3), ("few", "b", 0)]
        self.assertTrue(all(shows_lost(logs, thing) for thing in good))
        wrong = [list(thing) for thing in good] + [thing[:-1] for thing in good] + [thing + ("y",) for thing in good]
        wrong += [(thing,) for thing in good] + [[thing] for thing in good] + [good, tuple(good)] + STRANGE
        wrong += [("newer", "a", 2, item) for item in ("x", "z", "", None, True, 0, ["y"], ("y",), {"y": 0})]
        wrong += [("newer", "a", index, "y") for index in (-2, 4, "2", None, [2], (2,), 10 ** 59)]
        wrong += [("few", worker, 3) for worker in ("", "c", None, 0, True, ["a"], ("a",), {"a": 3}, "b", "?")]
        wrong += [(word, "a", 3) for word in ("", "Few", None, 0, True, ["few"], ("few",), "newer", "kept", "present")]
        wrong += [("few", "a", 3, None), ("few", "b", False), ("few", "b", 0, "x"), ("few", ("b", 0)), ("few", "b")]
        for thing in wrong:
            self.assertIs(shows_lost(logs, thing), False, thing)

    def test_wrong_cycles(self):
        good = [("a", 0), ("a", 1), ("b", 0), ("b", 1)]
        for thing in (("cycle",), ("cycle", good, good), ("cycle", tuple(good)), ("cycle", *good), ["cycle", good],
                      ("Cycle", good), (["cycle"], good), ("cycle", [good]), ("cycle", None), ("cycle", 0),
                      ("cycle", "ab"), ("cycle", {"a": 0}), (("cycle", good),),
                      ("cycle", [list(place) for place in good])):
            self.assertIs(shows_lost(CROSSED, thing), False, thing)

    def test_booleans_in_the_place_of_integers(self):
        logs = {"a": [("push", "x"), ("size", 0), ("pop", "x")], "b": [("size", 1), ("size", 2)]}
        for thing in (("present", "a", True, "x"), ("few", "b", False), ("few", "b", True)):
            self.assertIs(shows_lost(logs, thing), False, thing)
        for places in ([("a", False), ("a", 1), ("b", 0), ("b", 1)], [("a", 0), ("a", True), ("b", 0), ("b", 1)]):
            self.assertIs(shows_lost(CROSSED, ("cycle", places)), False, places)


class Sets(unittest.TestCase):
    def test_needed_because_of_a_later_steal(self):
        logs = {"a": [("push", item) for item in "vwxyz"], "b": [("steal", "a", "w"), ("steal", "a", "y")]}
        self.assertEqual(lost_needed(logs), {"a": ["v", "x"], "b": []})
        self.assertEqual(lost_possible(logs), {"a": ["z"], "b": []})
        self.assertEqual(lost_count(logs), 2)

    def test_needed_because_of_a_size(self):
        logs = {"b": [("push", "z"), ("push", "y"), ("size", 0), ("push", "x"), ("push", "w")], "a": [("push", "v")]}
        self.assertEqual(lost_needed(logs), {"a": [], "b": ["z", "y"]})
        self.assertEqual(lost_possible(logs), {"a": ["v"], "b": ["x", "w"]})
        self.assertEqual(lost_count(logs), 6)

    def test_popped_items_are_not_possible(self):
        logs = {"a": [("push", "x"), ("push", "y"), ("pop", "y"), ("push", "z")]}
        self.assertEqual([lost_needed(logs), lost_possible(logs)], [{"a": []}, {"a": ["x", "z"]}])
        self.assertEqual(lost_count(logs), 3)

    def test_keys_are_ascending(self):
        logs = {"c": [], "b": [("push", "x")], "a": [("push", "y"), ("size", 0)]}
        for found in (lost_needed(logs), lost_possible(logs)):
            self.assertEqual(list(found), ["a", "b", "c"])

    def test_no_entries(self):
        logs = {"b": [], "a": []}
        self.assertEqual([lost_needed(logs), lost_possible(logs)], [{"a": [], "b": []}] * 2)
        self.assertEqual([lost_count(logs), lost_run(logs)], [1, []])

    def test_lists_are_new(self):
        logs = {"a": [("push", "x"), ("size", 0)], "b": [], "c": []}
        for call in (lost_needed, lost_possible):
            found = call(logs)
            self.assertEqual(len({id(items) for items in found.values()}), 3)
            found["b"].append("y")
            self.assertEqual(found["c"], [])
            self.assertEqual(call(logs)["b"], [])

    def test_conflicts(self):
        for logs in ({"a": [("push", "x"), ("size", 0), ("pop", "x")]}, {"a": [("size", 1)]}, TURNED, CROSSED,
                     {"a": [("push", "x"), ("push", "y"), ("pop", "x")]}):
            for call in (lost_needed, lost_possible, lost_run):
                with self.assertRaises(Conflict) as caught:
                    call(logs)
                self.assertEqual(caught.exception.reason, lost_reason(logs))
            self.assertIs(lost_count(logs), 0)

    def test_wrong_logs(self):
        for logs in wrong_logs():
            for call in (lost_reason, lost_needed, lost_possible, lost_run, lost_count,
                         lambda thing: shows_lost(thing, ("few", "a", 0))):
                with self.assertRaises(NoLogs):
                    call(logs)


class Agreement(unittest.TestCase):
    """The answers against all runs with all steals of the lost worker, which are found by replaying."""

    def test_small_logs(self):
        for logs in small_logs(4):
            self.compare(logs)

    def test_chance_logs(self):
        seen = {None: 0, "newer": 0, "few": 0, "present": 0, "cycle": 0}
        for logs in lost_cases(31, 1500):
            found = self.compare(logs)
            seen[found and found[0]] += 1
        self.assertGreater(min(seen.values()), 10, seen)

    def test_small_logs_of_one_deque(self):
        logs = {"a": [("push", "x"), ("push", "y")], "b": []}
        words = [("size", 0), ("size", 1), ("size", 2), ("pop", "y"), ("push", "z")]
        for many in range(5):
            for log in itertools.permutations(words, many):
                for steals in ([], [("steal", "a", "x")], [("steal", "a", "y")]):
                    if not (("pop", "y") in log and ("steal", "a", "y") in steals):
                        self.compare({"a": logs["a"] + list(log), "b": steals})

    def test_cycles_against_the_definition(self):
        true = 0
        cases = [logs for logs in lost_cases(32, 1200, longest=5)
                 if not lost_certificates(logs) and needed_by_words(logs) and not lost_sets(logs)]
        self.assertGreater(len(cases), 5)
        for many, other in itertools.product(range(3), repeat=2):
            for steals in ([], [("steal", "a", "x")], [("steal", "a", "y")]):
                log = [("push", "x"), ("push", "y"), ("size", many), ("size", other)]
                cases.append({"a": log, "b": steals})
        for logs in cases + lost_cases(33, 20, longest=4):
            places = all_places(logs) + [("?", item) for item in left_of(logs)]
            for many in (2, 3, 4):
                for cycle in itertools.permutations(places, many):
                    self.assertIs(shows_lost(logs, ("cycle", list(cycle))), self.expected(logs, list(cycle)),
                                  (logs, cycle))
                    true += self.expected(logs, list(cycle))
        self.assertGreater(true, 50)

    def expected(self, logs, cycle):
        if lost_certificates(logs):
            return False
        needed = needed_by_words(logs)
        return (all(place[0] != "?" or place[1] in needed for place in cycle) and is_true_lost_cycle(logs, cycle))

    def compare(self, logs):
        certificates = lost_certificates(logs)
        ends = lost_sets(logs)
        found = lost_reason(logs)
        for thing in all_candidates(logs):
            self.assertIs(shows_lost(logs, thing), thing in certificates, (logs, thing))
        self.assertEqual(found is None, bool(ends), logs)
        self.assertEqual(lost_count(logs), len(ends), logs)
        if certificates:
            self.assertEqual(found, certificates[0], logs)
        elif found is not None:
            self.assertEqual(found[0], "cycle")
            self.assertTrue(is_true_lost_cycle(logs, found[1]), logs)
            self.assertIs(shows_lost(logs, found), True)
        else:
            self.compare_sets(logs, ends)
        return found

    def compare_sets(self, logs, ends):
        needed = frozenset.intersection(*ends)
        possible = frozenset.union(*ends) - needed
        for answer, items in ((lost_needed(logs), needed), (lost_possible(logs), possible)):
            self.assertEqual(answer, {worker: [entry[1] for entry in logs[worker]
                                               if entry[0] == "push" and entry[1] in items] for worker in logs})
        beginnings = [[items[:many] for many in range(len(items) + 1)] for items in lost_possible(logs).values()]
        expected = {needed.union(*choice) for choice in itertools.product(*beginnings)}
        self.assertEqual(expected, ends, logs)
        run = lost_run(logs)
        self.assertIs(type(run), list)
        self.assertTrue(is_true_lost_run(logs, needed, run), (logs, run))


class Great(unittest.TestCase):
    def test_count_has_no_limit(self):
        names = [[first + second for second in "abcdefghij" for first in letters[:6]] for letters in
                 ("abcdef", "ghijkl", "mnopqr", "stuvwx", "yzabcd")]
        logs = {worker: [("push", worker + item) for item in items] for worker, items in zip("abcde", names)}
        logs["f"] = [("push", "fz" + item) for item in names[0]]
        self.assertEqual(lost_count(logs), 61 ** 6)
        self.assertEqual([len(items) for items in lost_possible(logs).values()], [60] * 6)
        logs["f"][59] = ("size", 0)
        self.assertEqual(lost_needed(logs)["f"], ["fz" + item for item in names[0][:59]])
        self.assertEqual(lost_count(logs), 61 ** 5)
        self.assertEqual(len(lost_run(logs)), 360 + 59)
        self.assertTrue(is_true_lost_run(logs, lost_needed(logs)["f"], lost_run(logs)))

    def test_steals_of_chance_runs_that_are_lost(self):
        lost = 0
        for seed in (5, 6, 7):
            logs, order = great_logs(seed)
            # All steals of one worker stand in a seventh log, and this log is lost.
            thefts = {entry[2] for entry in logs["f"] if entry[0] == "steal"}
            for worker in logs:
                logs[worker] = [entry for entry in logs[worker] if not (entry[0] == "steal" and entry[2] in thefts)]
            self.assertIsNone(lost_reason(logs))
            needed, possible = lost_needed(logs), lost_possible(logs)
            lost += len(thefts)
            for worker in logs:
                taken = [entry[1] for entry in logs[worker] if entry[0] == "push" and entry[1] in thefts]
                self.assertEqual([item for item in taken if item in needed[worker]], needed[worker])
                further = [item for item in taken if item not in needed[worker]]
                self.assertEqual(further, possible[worker][:len(further)])
            self.assertTrue(is_true_lost_run(logs, sum(needed.values(), []), lost_run(logs)))
        self.assertGreater(lost, 20)

    def test_long_cycle(self):
        logs = {worker: [("size", 0)] * 58 for worker in "abcdef"}
        for worker, other in zip("abcdef", "fabcde"):
            logs[worker] = [("steal", other, "x" + other)] + logs[worker] + [("push", "x" + worker)]
        word, places = lost_reason(logs)
        self.assertEqual([word, len(places)], ["cycle", 360])
        self.assertTrue(shows_lost(logs, (word, places)))
        logs["a"].pop(0)
        self.assertIsNone(lost_reason(logs))
        self.assertEqual(lost_count(logs), 2)


if __name__ == "__main__":
    unittest.main()
