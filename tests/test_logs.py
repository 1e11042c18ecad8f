"""Points 3 and 6: logs and the functions over them."""

import unittest

from dequelogs.errors import NoLogs, NoPlace, NoWorker
from dequelogs.logs import is_logs, left_items, open_items, pushes, removals, stolen_items
from oracle import all_places, candidate_logs, example, fits_definition, opened, small_logs, steal_of
from wrong import wrong_logs


class IsLogs(unittest.TestCase):
    def test_examples(self):
        self.assertIs(is_logs({"a": [("push", "x")]}), True)
        self.assertIs(is_logs({"a": [("pop", "x")]}), False)
        self.assertIs(is_logs(example()), True)

    def test_wrong_objects(self):
        for thing in wrong_logs():
            self.assertIs(is_logs(thing), False, thing)

    def test_number_of_workers(self):
        self.assertFalse(is_logs({}))
        for many in range(1, 7):
            self.assertTrue(is_logs({name: [] for name in "abcdef"[:many]}))
        self.assertFalse(is_logs({name: [] for name in "abcdefg"}))

    def test_number_of_entries(self):
        self.assertTrue(is_logs({"a": []}))
        self.assertTrue(is_logs({"a": [("size", 0)] * 60}))
        self.assertFalse(is_logs({"a": [("size", 0)] * 61}))
        self.assertFalse(is_logs({"a": [], "b": [("size", 0)] * 61}))
        self.assertTrue(is_logs({name: [("size", 60)] * 60 for name in "abcdef"}))

    def test_sizes(self):
        for n in (0, 1, 59, 60):
            self.assertTrue(is_logs({"a": [("size", n)]}))
        for n in (-1, 61, 10 ** 59, True, False, "0", None):
            self.assertFalse(is_logs({"a": [("size", n)]}), n)

    def test_names(self):
        for name in ("a", "z", "abcdefgh", "zzzzzzzz"):
            self.assertTrue(is_logs({name: [("push", name), ("pop", name)]}))
            self.assertTrue(is_logs({name: [("push", name)], "thief": [("steal", name, name)]}))
        self.assertFalse(is_logs({"abcdefghi": []}))
        self.assertFalse(is_logs({"a": [("push", "abcdefghi")]}))

    def test_items_that_are_placed_well(self):
        self.assertTrue(is_logs({"a": [("push", "x"), ("push", "y"), ("pop", "x")]}))
        self.assertTrue(is_logs({"b": [("steal", "a", "x")], "a": [("push", "x")]}))
        self.assertTrue(is_logs({"a": [("steal", "b", "y"), ("push", "x")], "b": [("steal", "a", "x"), ("push", "y")]}))
        self.assertTrue(is_logs({"a": [("push", "a")], "b": [("steal", "a", "a")]}))

    def test_all_small_dicts_against_the_definition(self):
        for thing in candidate_logs(3):
            self.assertIs(is_logs(thing), fits_definition(thing), thing)
        for logs in small_logs(4):
            self.assertIs(is_logs(logs), True, logs)


class Items(unittest.TestCase):
    def test_pushes_and_removals_of_the_example(self):
        self.assertEqual(pushes(example()), {"x": ("a", 0), "y": ("a", 1), "z": ("a", 3)})
        self.assertEqual(removals(example()), {"x": ("b", 0), "y": ("a", 2), "z": ("b", 1)})

    def test_removal_of_a_left_item_is_none(self):
        self.assertEqual(removals({"a": [("push", "x"), ("push", "y"), ("pop", "y")]}), {"x": None, "y": ("a", 2)})

    def test_left_items(self):
        self.assertEqual(left_items({"a": [("push", "x")], "b": []}), {"a": ["x"], "b": []})
        self.assertEqual(left_items(example()), {"a": [], "b": []})
        logs = {"b": [("steal", "a", "z")], "a": [("push", item) for item in "zyxw"] + [("pop", "x")]}
        self.assertEqual(left_items(logs), {"a": ["y", "w"], "b": []})

    def test_keys_are_ascending(self):
        logs = {"c": [("push", "m"), ("push", "k")], "b": [("push", "z"), ("pop", "z")], "a": [("push", "l")]}
        self.assertEqual(list(pushes(logs)), ["k", "l", "m", "z"])
        self.assertEqual(list(removals(logs)), ["k", "l", "m", "z"])
        self.assertEqual(list(left_items(logs)), ["a", "b", "c"])
        self.assertEqual(left_items(logs)["c"], ["m", "k"])

    def test_open_items(self):
        self.assertEqual(open_items(example(), "a", 4), ["x", "z"])
        self.assertEqual([open_items(example(), "a", index) for index in range(4)], [[], ["x"], ["x", "y"], ["x"]])
        self.assertEqual(open_items(example(), "b", 1), [])
        logs = {"a": [("push", "x"), ("push", "y"), ("pop", "x"), ("size", 0)]}
        self.assertEqual(open_items(logs, "a", 3), ["y"])

    def test_stolen_items(self):
        self.assertEqual(stolen_items(example(), "a"), ["x", "z"])
        self.assertEqual(stolen_items(example(), "b"), [])
        logs = {"a": [("push", "x"), ("push", "y")], "b": [("steal", "a", "y")], "c": [("steal", "a", "x")]}
        self.assertEqual(stolen_items(logs, "a"), ["x", "y"])

    def test_empty_logs(self):
        logs = {"b": [], "a": []}
        self.assertEqual([pushes(logs), removals(logs), left_items(logs)], [{}, {}, {"a": [], "b": []}])
        self.assertEqual(stolen_items(logs, "b"), [])

    def test_all_small_logs_against_the_definition(self):
        for logs in small_logs(3):
            for worker, index in all_places(logs):
                self.assertEqual(open_items(logs, worker, index), opened(logs, worker, index))
            for item, place in pushes(logs).items():
                self.assertEqual(logs[place[0]][place[1]], ("push", item))
                self.assertEqual(item in stolen_items(logs, place[0]), steal_of(logs, item) is not None)
            for item, place in removals(logs).items():
                owner = pushes(logs)[item][0]
                self.assertEqual(place is None, item in left_items(logs)[owner])
                if place is not None:
                    self.assertIn(logs[place[0]][place[1]][0], ("pop", "steal"))
                    self.assertEqual(logs[place[0]][place[1]][-1], item)


class Wrong(unittest.TestCase):
    def test_logs_come_first(self):
        with self.assertRaises(NoLogs):
            pushes({"a": [("push", "x"), ("push", "x")]})
        for thing in wrong_logs():
            for call in (lambda: pushes(thing), lambda: removals(thing), lambda: left_items(thing),
                         lambda: open_items(thing, "none", -1), lambda: stolen_items(thing, "none"),
                         lambda: open_items(thing, "a", 0), lambda: stolen_items(thing, "a")):
                with self.assertRaises(NoLogs):
                    call()

    def test_workers(self):
        for worker in ("", "c", "A", "ab", "a ", "a\n", "x" * 4000):
            with self.assertRaises(NoWorker):
                stolen_items(example(), worker)
            for index in (0, 9, -1):
                with self.assertRaises(NoWorker):
                    open_items(example(), worker, index)

    def test_indexes(self):
        for worker, index in (("a", 5), ("a", -1), ("a", 10 ** 59), ("a", -10 ** 59), ("b", 2), ("b", 4)):
            with self.assertRaises(NoPlace):
                open_items(example(), worker, index)
        with self.assertRaises(NoPlace):
            open_items({"a": []}, "a", 0)


if __name__ == "__main__":
    unittest.main()
