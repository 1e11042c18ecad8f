"""Point 7: reason and shows."""

import itertools
import unittest

from dequelogs.graph import consistent, reason, shows
from oracle import all_places, certificates, chance_cases, example, is_true_cycle, small_logs
from wrong import STRANGE, WRONG_PLACES

CROSSED = {"a": [("steal", "b", "y"), ("push", "x")], "b": [("steal", "a", "x"), ("push", "y")]}


def six_long_logs():
    """Logs and facts whose one shortest cycle has 360 places."""
    logs = {name: [("size", 0)] * 60 for name in "abcdef"}
    return logs, [((name, 59), (later, 0)) for name, later in zip("abcdef", "bcdefa")]


class Reason(unittest.TestCase):
    def test_newer(self):
        logs = {"a": [("push", "x"), ("push", "y"), ("pop", "x")]}
        self.assertEqual(reason(logs, []), ("newer", "a", 2, "y"))
        logs["a"].insert(2, ("push", "z"))
        self.assertEqual(reason(logs, []), ("newer", "a", 3, "z"))

    def test_newer_also_if_the_newer_item_is_stolen(self):
        logs = {"b": [("push", "x"), ("push", "y"), ("pop", "x")], "a": [("steal", "b", "y")]}
        self.assertEqual(reason(logs, []), ("kept", "b", 1, "x"))
        self.assertTrue(shows(logs, [], ("newer", "b", 2, "y")))

    def test_kept(self):
        logs = {"a": [("push", "x"), ("push", "y")], "b": [("steal", "a", "y")]}
        self.assertEqual(reason(logs, []), ("kept", "a", 1, "x"))

    def test_kept_names_the_oldest_that_is_not_stolen(self):
        logs = {"a": [("push", "w"), ("push", "x"), ("push", "y"), ("push", "z"), ("pop", "z")],
                "b": [("steal", "a", "w")]}
        self.assertIsNone(reason(logs, []))
        logs["b"].append(("steal", "a", "z"))
        logs["a"].pop()
        self.assertEqual(reason(logs, []), ("kept", "a", 3, "x"))

    def test_kept_although_popped_later(self):
        logs = {"a": [("push", "x"), ("push", "y"), ("pop", "x")], "b": [("steal", "a", "y")]}
        self.assertEqual(reason(logs, []), ("kept", "a", 1, "x"))

    def test_few_and_present(self):
        self.assertEqual(reason({"a": [("push", "x"), ("size", 2)]}, []), ("few", "a", 1))
        self.assertEqual(reason({"a": [("push", "x"), ("size", 0)]}, []), ("present", "a", 1, "x"))
        self.assertEqual(reason({"a": [("size", 60)]}, []), ("few", "a", 0))

    def test_present_names_the_oldest_that_is_not_stolen(self):
        logs = {"a": [("push", "w"), ("push", "x"), ("push", "y"), ("push", "z"), ("size", 1)],
                "b": [("steal", "a", "w")]}
        self.assertEqual(reason(logs, []), ("present", "a", 4, "x"))

    def test_first_by_worker_then_by_index(self):
        few = [("size", 1)]
        newer = [("push", "x"), ("push", "y"), ("pop", "x"), ("size", 0), ("size", 7)]
        self.assertEqual(reason({"b": few, "a": newer}, []), ("newer", "a", 2, "y"))
        self.assertEqual(reason({"a": few, "b": newer}, []), ("few", "a", 0))
        self.assertEqual(reason({"c": newer[:2] + newer[3:], "b": []}, []), ("present", "c", 2, "x"))

    def test_cycle_comes_last(self):
        facts = [(("a", 1), ("a", 0))]
        self.assertEqual(reason({"a": [("push", "x"), ("size", 0)]}, facts), ("present", "a", 1, "x"))
        self.assertEqual(reason({"a": [("push", "x"), ("size", 1)]}, facts)[0], "cycle")

    def test_cycle(self):
        word, places = reason(CROSSED, [])
        self.assertEqual(word, "cycle")
        self.assertIs(type(places), list)
        self.assertTrue(is_true_cycle(CROSSED, [], places))
        self.assertFalse(consistent(CROSSED, []))

    def test_cycle_of_facts(self):
        facts = [(("a", 2), ("b", 0)), (("b", 0), ("a", 1))]
        word, places = reason(example(), facts)
        self.assertEqual(word, "cycle")
        self.assertTrue(is_true_cycle(example(), facts, places))

    def test_cycle_of_360_places(self):
        logs, facts = six_long_logs()
        word, places = reason(logs, facts)
        self.assertEqual([word, len(places), len(set(places))], ["cycle", 360, 360])
        self.assertTrue(shows(logs, facts, (word, places)))
        self.assertTrue(shows(logs, facts, (word, all_places(logs))))
        self.assertIsNone(reason(logs, facts[:5]))

    def test_small_logs_against_the_definition(self):
        for logs in small_logs(4):
            found = reason(logs, [])
            if certificates(logs):
                self.assertEqual(found, certificates(logs)[0], logs)
            elif found is not None:
                self.assertEqual(found[0], "cycle")
                self.assertTrue(is_true_cycle(logs, [], found[1]), logs)

    def test_chance_logs_against_the_definition(self):
        seen = {"newer": 0, "kept": 0, "few": 0, "present": 0, "cycle": 0, None: 0}
        for logs, facts in chance_cases(1, 1000, longest=14):
            found = reason(logs, facts)
            seen[found and found[0]] += 1
            if certificates(logs):
                self.assertEqual(found, certificates(logs)[0], logs)
            elif found is not None:
                self.assertTrue(is_true_cycle(logs, facts, found[1]), logs)
            self.assertEqual(consistent(logs, facts), found is None)
            self.assertTrue(found is None or shows(logs, facts, found))
        self.assertGreater(min(seen.values()), 3, seen)


class Shows(unittest.TestCase):
    def test_cycle_at_any_distance(self):
        places = [("a", 0), ("a", 1), ("b", 0), ("b", 1)]
        self.assertIs(shows(CROSSED, [], ("cycle", places)), True)
        self.assertTrue(shows(CROSSED, [], ("cycle", places[2:] + places[:2])))
        self.assertFalse(shows(CROSSED, [], ("cycle", places[::-1])))
        self.assertFalse(shows(CROSSED, [], ("cycle", places[:3])))
        logs = {"a": [("size", 0)] * 9}
        self.assertTrue(shows(logs, [(("a", 7), ("a", 1))], ("cycle", [("a", 1), ("a", 7)])))
        self.assertTrue(shows(logs, [(("a", 7), ("a", 1))], ("cycle", [("a", 1), ("a", 4), ("a", 7)])))
        self.assertTrue(shows(logs, [(("a", 7), ("a", 1))], ("cycle", [("a", 7), ("a", 1), ("a", 4)])))
        self.assertFalse(shows(logs, [(("a", 7), ("a", 1))], ("cycle", [("a", 1), ("a", 8)])))

    def test_cycle_needs_two_different_places(self):
        logs = {"a": [("size", 0)] * 3}
        facts = [(("a", 2), ("a", 0))]
        good = [("a", 0), ("a", 2)]
        self.assertTrue(shows(logs, facts, ("cycle", good)))
        for places in ([], good[:1], good + good, [good[0], good[0]], good + [("a", 0)]):
            self.assertFalse(shows(logs, facts, ("cycle", places)), places)

    def test_no_certificate_for_consistent_logs(self):
        logs = example()
        for thing in all_candidates(logs) + [None]:
            self.assertIs(shows(logs, [], thing), False)

    def test_cycle_beside_other_certificates(self):
        logs = {"a": [("push", "x"), ("size", 0), ("push", "y")], "b": [("size", 3)]}
        facts = [(("a", 2), ("b", 0)), (("b", 0), ("a", 0))]
        for thing in (("present", "a", 1, "x"), ("few", "b", 0), ("cycle", [("a", 0), ("a", 2), ("b", 0)])):
            self.assertTrue(shows(logs, facts, thing), thing)

    def test_other_items(self):
        logs = {"a": [("push", item) for item in "vwxyz"] + [("size", 1), ("pop", "w")],
                "b": [("steal", "a", "v"), ("steal", "a", "y")]}
        true = [("newer", "a", 6, item) for item in "xyz"] + [("kept", "a", 3, item) for item in "wx"]
        true += [("present", "a", 5, item) for item in "wx"]
        for thing in all_candidates(logs):
            self.assertEqual(shows(logs, [], thing), thing in true, thing)

    def test_size_greater_than_the_open_items_is_only_few(self):
        logs = {"a": [("push", "x"), ("push", "y"), ("size", 3)]}
        self.assertEqual([thing for thing in all_candidates(logs) if shows(logs, [], thing)], [("few", "a", 2)])

    def test_wrong_objects(self):
        logs = {"a": [("push", "x"), ("push", "y"), ("pop", "x"), ("size", 5)], "b": [("size", 1)]}
        good = [("newer", "a", 2, "y"), ("few", "a", 3), ("few", "b", 0)]
        facts = [(("a", 3), ("a", 0)), (("a", 1), ("a", 0))]
        self.assertTrue(all(shows(logs, facts, thing) for thing in good))
        wrong = [list(thing) for thing in good] + [thing[:-1] for thing in good] + [thing + ("y",) for thing in good]
        wrong += [(thing,) for thing in good] + [[thing] for thing in good] + [good, tuple(good)] + STRANGE
        wrong += [("newer", "a", 2, item) for item in ("x", "z", "", None, True, 0, ["y"], ("y",), {"y": 0})]
        wrong += [("newer", "a", index, "y") for index in (-2, 4, "2", None, [2], (2,), 10 ** 59)]
        wrong += [("few", worker, 3) for worker in ("", "c", None, 0, True, ["a"], ("a",), {"a": 3}, "b")]
        wrong += [(word, "a", 3) for word in ("", "Few", None, 0, True, ["few"], ("few",), "newer", "kept", "present")]
        wrong += [("few", "a", 3, None), ("few", "b", False), ("few", "b", 0, "x"), ("few", ("b", 0)), ("few", "b")]
        for thing in wrong:
            self.assertIs(shows(logs, facts, thing), False, thing)

    def test_booleans_in_the_place_of_integers(self):
        logs = {"a": [("push", "x"), ("size", 0)], "b": [("size", 1), ("size", 2)]}
        facts = [(("a", 1), ("a", 0))]
        for thing in (("present", "a", 1, "x"), ("few", "b", 0), ("few", "b", 1), ("cycle", [("a", 0), ("a", 1)])):
            self.assertTrue(shows(logs, facts, thing))
        for thing in (("present", "a", True, "x"), ("few", "b", False), ("few", "b", True),
                      ("cycle", [("a", 0), ("a", True)]), ("cycle", [("a", False), ("a", 1)]),
                      ("cycle", [("a", False), ("a", True)])):
            self.assertIs(shows(logs, facts, thing), False, thing)

    def test_wrong_cycles(self):
        logs = example()
        facts = [(("a", 4), ("a", 0))]
        good = [("a", 0), ("b", 0), ("b", 1), ("a", 4)]
        self.assertTrue(shows(logs, facts, ("cycle", good)))
        for thing in (("cycle",), ("cycle", good, good), ("cycle", tuple(good)), ("cycle", *good), ["cycle", good],
                      ("Cycle", good), (["cycle"], good), ("cycle", [list(place) for place in good]), ("cycle", [good]),
                      ("cycle", None), ("cycle", 0), ("cycle", "ab"), ("cycle", {"a": 0, "b": 0}), (("cycle", good),)):
            self.assertIs(shows(logs, facts, thing), False, thing)
        for place in WRONG_PLACES:
            self.assertIs(shows(logs, facts, ("cycle", good + [place])), False, place)
            self.assertIs(shows(logs, facts, ("cycle", [place] + good)), False, place)
            self.assertIs(shows(logs, facts, ("cycle", [place, place])), False, place)

    def test_small_logs_against_the_definition(self):
        for logs in small_logs(3):
            true = certificates(logs)
            for thing in all_candidates(logs):
                self.assertIs(shows(logs, [], thing), thing in true, (logs, thing))

    def test_cycles_against_the_definition(self):
        true = 0
        for logs, facts in chance_cases(2, 120):
            for many in (2, 3):
                for places in itertools.permutations(all_places(logs), many):
                    expected = is_true_cycle(logs, facts, list(places))
                    true += expected
                    self.assertIs(shows(logs, facts, ("cycle", list(places))), expected, (logs, facts, places))
        self.assertGreater(true, 20)


def all_candidates(logs):
    """All certificates with an entry, of all forms and of all items, true or not."""
    items = [entry[1] for log in logs.values() for entry in log if entry[0] == "push"]
    found = []
    for worker, index in all_places(logs):
        found.append(("few", worker, index))
        found += [(word, worker, index, item) for word in ("newer", "kept", "present", "few") for item in items]
        found += [(word, worker, index) for word in ("newer", "kept", "present")]
    return found


if __name__ == "__main__":
    unittest.main()
