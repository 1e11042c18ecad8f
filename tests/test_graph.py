"""Point 7: precedences and what follows from them."""

import unittest

from dequelogs.errors import Conflict, NoPlace
from dequelogs.graph import (consistent, must_precede, needed_after, needed_before, path, precedences, reason)
from oracle import example, goes_before, pairs_of, small_logs


class Precedences(unittest.TestCase):
    def test_example(self):
        self.assertEqual(precedences(example()), [
            (("a", 0), ("a", 1)), (("a", 0), ("b", 0)), (("a", 1), ("a", 2)), (("a", 2), ("a", 3)),
            (("a", 3), ("a", 4)), (("a", 3), ("b", 1)), (("b", 0), ("b", 1)), (("b", 1), ("a", 4))])

    def test_size_between_two_steals(self):
        logs = {"b": [("steal", "a", "x")], "a": [("push", "x"), ("push", "y"), ("size", 1)],
                "c": [("steal", "a", "y")]}
        self.assertIn((("b", 0), ("a", 2)), precedences(logs))
        self.assertIn((("a", 2), ("c", 0)), precedences(logs))
        self.assertIn((("b", 0), ("c", 0)), precedences(logs))

    def test_logs_are_not_judged(self):
        logs = {"a": [("push", "x"), ("size", 2), ("push", "y"), ("size", 1), ("pop", "x")], "b": [("steal", "a", "y")]}
        order = [(("a", index), ("a", index + 1)) for index in range(4)]
        self.assertEqual(precedences(logs), sorted(order + [(("a", 2), ("b", 0)), (("a", 3), ("b", 0))]))

    def test_no_entries(self):
        self.assertEqual(precedences({"a": [], "b": []}), [])
        self.assertEqual(precedences({"a": [("size", 0)]}), [])

    def test_items_with_the_names_of_workers(self):
        logs = {"a": [("push", "a"), ("push", "b")], "b": [("push", "x"), ("steal", "a", "a"), ("steal", "a", "b")]}
        self.assertEqual(precedences(logs), [
            (("a", 0), ("a", 1)), (("a", 0), ("b", 1)), (("a", 1), ("b", 2)),
            (("b", 0), ("b", 1)), (("b", 1), ("b", 2))])
        self.assertIsNone(reason(logs, []))

    def test_order_of_the_dict_does_not_matter(self):
        logs = {"b": example()["b"], "a": example()["a"]}
        self.assertEqual(precedences(logs), precedences(example()))

    def test_small_logs_against_the_definition(self):
        for logs in small_logs(4):
            self.assertEqual(precedences(logs), sorted(pairs_of(logs)), logs)


class Queries(unittest.TestCase):
    def test_consistent(self):
        self.assertIs(consistent(example(), []), True)
        self.assertIs(reason(example(), []), None)
        self.assertIs(consistent(example(), [(("a", 4), ("a", 0))]), False)

    def test_must_precede(self):
        self.assertIs(must_precede(example(), [], ("a", 0), ("b", 1)), True)
        self.assertIs(must_precede(example(), [], ("a", 2), ("b", 0)), False)
        self.assertIs(must_precede(example(), [(("a", 2), ("b", 0))], ("a", 2), ("b", 0)), True)
        self.assertIs(must_precede(example(), [], ("a", 0), ("a", 0)), False)

    def test_path(self):
        self.assertEqual(path(example(), [], ("b", 1), ("a", 4)), [("b", 1), ("a", 4)])
        self.assertIsNone(path(example(), [], ("a", 2), ("b", 0)))
        self.assertIsNone(path(example(), [], ("a", 0), ("a", 0)))

    def test_needed(self):
        self.assertEqual(needed_before(example(), [], ("b", 1)), [("a", 0), ("a", 1), ("a", 2), ("a", 3), ("b", 0)])
        self.assertEqual(needed_after(example(), [], ("b", 0)), [("a", 4), ("b", 1)])
        self.assertEqual(needed_before(example(), [], ("a", 0)), [])
        self.assertEqual(needed_after(example(), [], ("a", 4)), [])

    def test_duplicate_facts(self):
        facts = [(("a", 2), ("b", 0)), (("a", 0), ("b", 0))] * 100
        self.assertTrue(consistent(example(), facts))
        self.assertEqual(needed_before(example(), facts, ("b", 0)), [("a", 0), ("a", 1), ("a", 2)])

    def test_places_come_before_conflict(self):
        facts = [(("a", 4), ("a", 0))]
        with self.assertRaises(NoPlace):
            must_precede(example(), facts, ("a", 0), ("a", 9))

    def test_conflict_has_the_reason(self):
        logs = {"a": [("push", "x"), ("size", 0)], "b": []}
        for call in (lambda: must_precede(logs, [], ("a", 0), ("a", 1)), lambda: path(logs, [], ("a", 0), ("a", 1)),
                     lambda: must_precede(logs, [], ("a", 0), ("a", 0)), lambda: path(logs, [], ("a", 1), ("a", 1)),
                     lambda: needed_before(logs, [], ("a", 0)), lambda: needed_after(logs, [], ("a", 0))):
            with self.assertRaises(Conflict) as caught:
                call()
            self.assertEqual(caught.exception.reason, ("present", "a", 1, "x"))


class Large(unittest.TestCase):
    """Six workers with sixty entries each and 200 facts."""

    def chain(self):
        logs = {name: [("size", 0)] * 60 for name in "fedcba"}
        facts = [((name, 59), (later, 0)) for name, later in zip("abcde", "bcdef")]
        return logs, facts * 40

    def test_long_path(self):
        logs, facts = self.chain()
        self.assertEqual(len(facts), 200)
        self.assertTrue(consistent(logs, facts))
        places = [(name, index) for name in "abcdef" for index in range(60)]
        self.assertEqual(path(logs, facts, ("a", 0), ("f", 59)), places)
        self.assertEqual(needed_before(logs, facts, ("f", 59)), places[:-1])
        self.assertEqual(needed_after(logs, facts, ("a", 0)), places[1:])
        self.assertTrue(must_precede(logs, facts, ("a", 0), ("f", 59)))
        self.assertFalse(must_precede(logs, facts, ("f", 0), ("a", 59)))

    def test_many_steals(self):
        names = [first + second for first in "abcdefgh" for second in "abcdefghij"][:60]
        logs = {name: [] for name in "bcdef"}
        for index, item in enumerate(names):
            logs["bcdef"[index // 12]].append(("steal", "a", item))
        logs["a"] = [("push", item) for item in names]
        self.assertTrue(consistent(logs, []))
        way = path(logs, [], ("a", 0), ("f", 11))
        self.assertEqual([way[0], way[-1]], [("a", 0), ("f", 11)])
        self.assertTrue(all(goes_before(logs, [], place, other) for place, other in zip(way, way[1:])))
        self.assertEqual(len(needed_before(logs, [], ("f", 11))), 119)
        logs["b"] += [("size", 0)] * 48
        self.assertEqual(len(needed_after(logs, [(("f", 11), ("b", 12))], ("f", 11))), 48)
        self.assertEqual(reason(logs, [(("f", 11), ("a", 59)), (("f", 11), ("b", 11))])[0], "cycle")


if __name__ == "__main__":
    unittest.main()
