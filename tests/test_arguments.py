"""Point 2: the general rules for arguments and results."""

import copy
import inspect
import unittest

from dequelogs import graph, logs as logs_file, lost, repair, runs, sizes
from dequelogs.errors import (Conflict, DequeError, NoFacts, NoItem, NoLogs, NoNumber, NoPlace, NoRun, NoWorker,
                              TooMany)
from oracle import all_places, example
from wrong import STRANGE, WRONG_PLACES, wrong_facts, wrong_logs

SIGNATURES = {
    logs_file.is_logs: ["thing"], logs_file.pushes: ["logs"], logs_file.removals: ["logs"],
    logs_file.left_items: ["logs"], logs_file.open_items: ["logs", "worker", "index"],
    logs_file.stolen_items: ["logs", "worker"],
    graph.precedences: ["logs"], graph.consistent: ["logs", "facts"], graph.reason: ["logs", "facts"],
    graph.shows: ["logs", "facts", "thing"], graph.must_precede: ["logs", "facts", "one", "other"],
    graph.path: ["logs", "facts", "one", "other"], graph.needed_before: ["logs", "facts", "place"],
    graph.needed_after: ["logs", "facts", "place"],
    runs.is_run: ["logs", "facts", "thing"], runs.replay: ["logs", "run"], runs.least_run: ["logs", "facts"],
    runs.run_count: ["logs", "facts"], runs.nth_run: ["logs", "facts", "number"],
    runs.run_number: ["logs", "facts", "run"], runs.share_before: ["logs", "facts", "one", "other"],
    runs.positions: ["logs", "facts", "place"], runs.run_with: ["logs", "facts", "place", "position"],
    sizes.size_range: ["logs", "facts", "worker", "place"], sizes.greatest_size: ["logs", "facts", "worker"],
    sizes.can_meet: ["logs", "facts", "item", "other_item"],
    sizes.can_be_empty: ["logs", "facts", "workers", "after", "before"],
    sizes.empty_moment: ["logs", "facts", "workers", "after", "before"],
    lost.lost_reason: ["logs"], lost.shows_lost: ["logs", "thing"], lost.lost_needed: ["logs"],
    lost.lost_possible: ["logs"], lost.lost_run: ["logs"], lost.lost_count: ["logs"],
    repair.without: ["logs", "facts", "place"], repair.repairs: ["logs", "facts"],
}

# The error that is due for an argument of this name, in the order of checking.
ERRORS = {"logs": NoLogs, "facts": NoFacts, "worker": NoWorker, "index": NoPlace, "one": NoPlace, "other": NoPlace,
          "place": NoPlace, "number": NoNumber, "run": NoRun, "item": NoItem, "other_item": NoItem,
          "workers": NoWorker, "after": NoPlace, "before": NoPlace}

# The functions that raise Conflict for facts that contradict, and the ones that count.
WITH_CONFLICT = [graph.must_precede, graph.path, graph.needed_before, graph.needed_after, runs.least_run,
                 runs.share_before, runs.positions, runs.run_with, sizes.size_range, sizes.greatest_size,
                 sizes.can_meet, sizes.can_be_empty, sizes.empty_moment]
COUNTING = [runs.run_count, runs.nth_run, runs.run_number, runs.share_before]


def good_values():
    """One valid argument for each name."""
    logs = {"b": example()["b"], "a": example()["a"], "c": []}
    return {"logs": logs, "facts": [(("a", 2), ("b", 1)), (("a", 2), ("b", 1))], "worker": "a", "index": 4,
            "one": ("a", 0), "other": ("b", 1), "place": ("b", 0), "thing": ("cycle", [("a", 0), ("b", 0)]),
            "run": list("aabaaba"), "number": 2, "position": 3, "item": "x", "other_item": "z", "workers": ["a", "c"],
            "after": ("a", 0), "before": ("a", 3)}


def wrong_values():
    """Wrong arguments for each name."""
    moments = [place for place in WRONG_PLACES if place is not None]
    no_runs = STRANGE + [[], "aabaaba", tuple("aabaaba"), list("aaaabab"), list("aabaab"), [("a", 0)], ["a"] * 7]
    no_workers = STRANGE + ["ac", ("a", "c"), ["c", "a"], ["a", "a"], ["a", "d"], ["a", None], ["a", ["c"]], {"a": 0}]
    return {"logs": wrong_logs(), "facts": wrong_facts(), "worker": ["", "d", "A", "a b"],
            "index": [5, -1, 10 ** 59, -10 ** 59], "one": WRONG_PLACES, "other": WRONG_PLACES, "place": WRONG_PLACES,
            "number": [4, -1, 10 ** 59, -10 ** 59], "run": no_runs, "workers": no_workers, "after": moments,
            "before": moments, "item": ["", "q", "a", "X", "x y"], "other_item": ["", "q", "a", "X", "x y"]}


def lists_in(thing):
    """All lists and dicts in an object."""
    found = [thing] if isinstance(thing, (list, dict)) else []
    inner = thing.values() if isinstance(thing, dict) else thing if isinstance(thing, (list, tuple)) else []
    for part in inner:
        found += lists_in(part)
    return found


class Interface(unittest.TestCase):
    def test_names_and_homes(self):
        for function, names in SIGNATURES.items():
            self.assertEqual(list(inspect.signature(function).parameters), names)
            homes = [file for file in (logs_file, graph, runs, sizes, lost, repair)
                     if vars(file).get(function.__name__) is function]
            self.assertEqual([file.__name__ for file in homes][:1], [function.__module__])

    def test_arguments_by_position_and_by_name(self):
        for function, names in SIGNATURES.items():
            good = good_values()
            by_position = function(*[good[name] for name in names])
            by_name = function(**{name: good[name] for name in reversed(names)})
            self.assertEqual(by_position, by_name, function)


class Wrong(unittest.TestCase):
    def raises(self, error, function, values):
        with self.assertRaises(error) as caught:
            function(**values)
        self.assertIs(type(caught.exception), error, (function, values))
        self.assertIsInstance(caught.exception, DequeError)
        self.assertIsInstance(caught.exception, ValueError)

    def test_one_wrong_argument(self):
        for function, names in SIGNATURES.items():
            for name in names:
                for wrong in wrong_values().get(name, []):
                    values = {other: good_values()[other] for other in names}
                    values[name] = wrong
                    self.raises(ERRORS[name], function, values)

    def test_several_wrong_arguments_and_a_conflict(self):
        for function, names in SIGNATURES.items():
            checked = [name for name in names if name in ERRORS]
            for at, first in enumerate(checked):
                values = {name: good_values()[name] for name in names}
                if "facts" in names:
                    values["facts"] = [(("a", 4), ("a", 0))]
                for name in checked[at:]:
                    values[name] = wrong_values()[name][-1]
                self.raises(ERRORS[first], function, values)

    def test_conflict_comes_last(self):
        for function in WITH_CONFLICT:
            values = {name: good_values()[name] for name in SIGNATURES[function]}
            values["facts"] = [(("a", 4), ("a", 0))]
            self.raises(Conflict, function, values)

    def test_too_many_comes_directly_after_facts(self):
        for function in COUNTING:
            names = SIGNATURES[function]
            values = {name: wrong_values()[name][-1] if name in wrong_values() else None for name in names}
            values["logs"] = {worker: [("size", 0)] * 60 for worker in "abc"}
            for facts in ([], [(("a", 4), ("a", 0))]):
                values["facts"] = facts
                self.raises(TooMany, function, values)
                values["logs"]["c"].append(("size", 0))
                self.raises(NoLogs, function, values)
                values["logs"]["c"].pop()
                values["facts"] = facts + [(("a", 0), ("a", 60))]
                self.raises(NoFacts, function, values)

    def test_places_of_other_logs(self):
        logs = {"a": [("size", 0)]}
        self.raises(NoFacts, graph.consistent, {"logs": logs, "facts": [(("a", 0), ("a", 1))]})
        self.raises(NoPlace, graph.needed_before, {"logs": {"a": []}, "facts": [], "place": ("a", 0)})

    def test_number_of_facts(self):
        fact = (("a", 0), ("b", 1))
        self.assertTrue(graph.consistent(example(), []))
        self.assertTrue(graph.consistent(example(), [fact] * 200))
        self.raises(NoFacts, graph.consistent, {"logs": example(), "facts": [fact] * 201})

    def test_facts_of_equal_places(self):
        for place in all_places(example()):
            self.raises(NoFacts, graph.reason, {"logs": example(), "facts": [(place, place)]})

    def test_booleans_are_no_integers(self):
        one, other = ("a", 0), ("b", 1)
        for fact in ((("a", False), other), (one, ("b", True)), (("a", False), ("a", True))):
            self.raises(NoFacts, graph.consistent, {"logs": example(), "facts": [fact]})
        for place in (("a", False), ("b", True)):
            self.raises(NoPlace, graph.needed_after, {"logs": example(), "facts": [], "place": place})
        self.raises(NoLogs, graph.precedences, {"logs": {"a": [("size", False)]}})


class Results(unittest.TestCase):
    def test_arguments_stay_as_they_were(self):
        for function, names in SIGNATURES.items():
            for facts in ([], good_values()["facts"], [(("a", 4), ("a", 0))]):
                values = {name: good_values()[name] for name in names}
                if "facts" in values:
                    values["facts"] = facts
                before = copy.deepcopy(values)
                try:
                    function(**values)
                except (Conflict, NoNumber, NoRun):
                    pass
                self.assertEqual(values, before, function)
                if "logs" in values:
                    self.assertEqual(list(values["logs"]), ["b", "a", "c"])

    def test_results_are_new(self):
        for function, names in SIGNATURES.items():
            values = {name: good_values()[name] for name in names}
            first, second = function(**values), function(**values)
            mine = lists_in(first) + lists_in(second)
            given = [part for value in values.values() for part in lists_in(value)]
            self.assertEqual(len({id(part) for part in mine + given}), len(mine) + len({id(part) for part in given}))

    def test_a_changed_result_changes_nothing(self):
        logs = {"a": [("push", "x")], "b": [("push", "y")]}
        found = logs_file.left_items(logs)
        found["a"].append("z")
        self.assertEqual(logs_file.left_items(logs), {"a": ["x"], "b": ["y"]})
        found = logs_file.open_items(example(), "a", 2)
        found.clear()
        self.assertEqual(logs_file.open_items(example(), "a", 2), ["x", "y"])
        facts = [(("a", 4), ("a", 0))]
        graph.reason(example(), facts)[1].clear()
        self.assertGreater(len(graph.reason(example(), facts)[1]), 1)

    def test_empty_lists_are_not_shared(self):
        found = logs_file.left_items({"a": [], "b": [], "c": []})
        found["a"].append("x")
        self.assertEqual(found, {"a": ["x"], "b": [], "c": []})

    def test_reasons_of_conflicts_are_new(self):
        facts = [(("a", 4), ("a", 0))]
        found = []
        for _ in range(2):
            try:
                graph.needed_before(example(), facts, ("a", 0))
            except Conflict as conflict:
                found.append(conflict.reason)
        self.assertEqual(found[0], found[1])
        self.assertIsNot(found[0][1], found[1][1])

    def test_logs_that_are_changed_in_place_are_read_anew(self):
        logs = {"a": [("push", "x")], "b": []}
        self.assertEqual(logs_file.removals(logs), {"x": None})
        self.assertEqual(graph.precedences(logs), [])
        logs["b"].append(("steal", "a", "x"))
        self.assertEqual(logs_file.removals(logs), {"x": ("b", 0)})
        self.assertEqual(graph.precedences(logs), [(("a", 0), ("b", 0))])
        logs["a"].append(("size", 2))
        self.assertEqual(graph.reason(logs, []), ("few", "a", 1))
        logs["a"].append(("push", "x"))
        self.assertFalse(logs_file.is_logs(logs))
        facts = []
        self.assertTrue(graph.consistent(example(), facts))
        facts.append((("a", 4), ("a", 0)))
        self.assertFalse(graph.consistent(example(), facts))

    def test_all_arguments_that_are_changed_in_place_are_read_anew(self):
        for function, names in SIGNATURES.items():
            values = {name: good_values()[name] for name in names}
            function(**values)
            if "logs" in values:
                values["logs"]["a"].append(("size", 1))
                values["logs"]["b"].append(("push", "w"))
                values["logs"]["c"] += [("size", 0), ("steal", "b", "w")]
            if "facts" in values:
                values["facts"].append((("c", 1), ("a", 4)))
            if "run" in values:
                values["run"] += list("abcc")
            if "workers" in values:
                values["workers"].insert(1, "b")
            answer = self.answer(function, values)
            self.assertEqual(answer, self.answer(function, copy.deepcopy(values)), function)
            # The changed logs contradict, so most answers differ.
            if function.__module__ not in ("dequelogs.logs", "dequelogs.graph") and "thing" not in names:
                good = {name: good_values()[name] for name in names}
                self.assertNotEqual(answer, self.answer(function, good), function)

    def answer(self, function, values):
        try:
            return function(**values)
        except DequeError as error:
            return [type(error), getattr(error, "reason", None)]

    def test_lists_in_reasons_are_new(self):
        logs = {"a": [("steal", "b", "y"), ("push", "x")], "b": [("steal", "a", "x"), ("push", "y")]}
        found = [lost.lost_reason(logs)[1], lost.lost_reason(logs)[1], graph.reason(logs, [])[1]]
        for call in (lambda: lost.lost_run(logs), lambda: runs.least_run(logs, []), lambda: lost.lost_needed(logs),
                     lambda: sizes.greatest_size(logs, [], "a")):
            with self.assertRaises(Conflict) as caught:
                call()
            found.append(caught.exception.reason[1])
        self.assertEqual(len({id(places) for places in found}), len(found))

    def test_results_may_be_passed_back(self):
        pairs = graph.precedences(example())
        self.assertTrue(graph.consistent(example(), pairs))
        self.assertEqual(graph.precedences(example()), pairs)
        for place in logs_file.pushes(example()).values():
            self.assertIs(graph.must_precede(example(), pairs, place, ("a", 4)), True)
        count = runs.run_count(example(), pairs)
        for number in range(count):
            run = runs.nth_run(example(), pairs, number)
            self.assertIs(runs.is_run(example(), pairs, run), True)
            self.assertEqual(runs.run_number(example(), pairs, run), number)
            self.assertEqual(len(runs.replay(example(), run)), 8)
        for position in runs.positions(example(), [], ("b", 0)):
            self.assertTrue(runs.is_run(example(), [], runs.run_with(example(), [], ("b", 0), position)))
        run, moment = sizes.empty_moment(example(), [], ["a"], None, None)
        self.assertIs(runs.is_run(example(), [], run), True)
        logs = {"a": [("push", "x"), ("size", 0), ("size", 1)]}
        self.assertIs(lost.shows_lost(logs, lost.lost_reason(logs)), True)


if __name__ == "__main__":
    unittest.main()
