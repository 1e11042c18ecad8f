"""Point 11: logs and facts without an entry, and repairs."""

import copy
import random
import unittest

from dequelogs.errors import DequeError, NoFacts, NoLogs, NoPlace
from dequelogs.graph import consistent
from dequelogs.logs import is_logs
from dequelogs.repair import repairs, without
from oracle import all_places, chance_cases, chance_logs, example, great_logs, small_cases, spoiled
from repair_oracle import has_no_conflict, has_run, slow_repairs, slow_without
from wrong import WRONG_PLACES, wrong_facts, wrong_logs

NAMES = [first + second for first in "abcdefghij" for second in "abcdefghij"]


def many_logs(seed, many):
    """Pairs of logs of one to six workers with up to sixty entries in all, spoiled or not, and facts."""
    chance = random.Random(seed)
    found = []
    for _ in range(many):
        workers = list("abcdef")[:chance.randrange(1, 7)]
        logs, order = chance_logs(chance, workers, chance.randrange(2, 61), NAMES)
        if chance.random() < 0.5:
            logs = spoiled(chance, logs)
        places = all_places(logs)
        facts = []
        for _ in range(chance.choice([0, 1, 3, 10])):
            one, other = [order[at] for at in sorted(chance.sample(range(len(order)), 2))]
            if one in places and other in places:
                facts.append((one, other) if chance.random() < 0.95 else (other, one))
        found.append((logs, facts))
    return found


class Examples(unittest.TestCase):
    def test_without(self):
        self.assertEqual(without(example(), [], ("a", 0)),
                         ({"a": [("push", "y"), ("pop", "y"), ("push", "z"), ("size", 0)], "b": [("steal", "a", "z")]},
                          []))

    def test_repairs(self):
        self.assertEqual(repairs({"a": [("push", "x"), ("push", "y"), ("pop", "x")]}, []),
                         [("a", 0), ("a", 1), ("a", 2)])


class Without(unittest.TestCase):
    def test_a_push_whose_item_is_popped(self):
        logs, facts = without(example(), [], ("a", 1))
        self.assertEqual(logs, {"a": [("push", "x"), ("push", "z"), ("size", 0)],
                                "b": [("steal", "a", "x"), ("steal", "a", "z")]})
        self.assertEqual(facts, [])

    def test_a_push_whose_item_is_stolen(self):
        self.assertEqual(without(example(), [], ("a", 3))[0],
                         {"a": [("push", "x"), ("push", "y"), ("pop", "y"), ("size", 0)], "b": [("steal", "a", "x")]})

    def test_a_push_whose_item_stays(self):
        logs = {"a": [("push", "x"), ("push", "y"), ("size", 2)], "b": [("size", 0)]}
        self.assertEqual(without(logs, [], ("a", 0))[0], {"a": [("push", "y"), ("size", 2)], "b": [("size", 0)]})

    def test_a_removal_goes_alone(self):
        self.assertEqual(without(example(), [], ("a", 2))[0]["a"],
                         [("push", "x"), ("push", "y"), ("push", "z"), ("size", 0)])
        self.assertEqual(without(example(), [], ("b", 0)),
                         ({"a": example()["a"], "b": [("steal", "a", "z")]}, []))

    def test_a_size(self):
        self.assertEqual(without(example(), [], ("a", 4))[0], {"a": example()["a"][:4], "b": example()["b"]})

    def test_logs_may_become_empty(self):
        self.assertEqual(without({"a": [("size", 3)]}, [], ("a", 0)), ({"a": []}, []))
        self.assertEqual(without({"b": [("push", "x")], "a": [("steal", "b", "x")]}, [(("b", 0), ("a", 0))], ("b", 0)),
                         ({"a": [], "b": []}, []))

    def test_facts_about_removed_entries(self):
        facts = [(("a", 0), ("a", 3)), (("a", 1), ("b", 0)), (("b", 0), ("a", 1)), (("a", 3), ("b", 1))]
        self.assertEqual(without(example(), facts, ("a", 1))[1], [(("a", 0), ("a", 1)), (("a", 1), ("b", 1))])
        # The steal of x goes with its push, and with it the facts about it.
        self.assertEqual(without(example(), facts, ("a", 0))[1], [(("a", 2), ("b", 0))])
        self.assertEqual(without(example(), facts[:1], ("a", 0))[1], [])
        self.assertEqual(without(example(), facts, ("a", 4))[1], facts)

    def test_facts_whose_places_move(self):
        logs = {"a": [("push", "x"), ("size", 1), ("pop", "x"), ("size", 0), ("size", 0)], "b": [("size", 0)]}
        facts = [(("a", 1), ("b", 0)), (("b", 0), ("a", 3)), (("a", 4), ("a", 3)), (("a", 1), ("a", 4))]
        # A push and its pop: the places between them move by one, those behind both by two.
        self.assertEqual(without(logs, facts, ("a", 0))[1],
                         [(("a", 0), ("b", 0)), (("b", 0), ("a", 1)), (("a", 2), ("a", 1)), (("a", 0), ("a", 2))])
        self.assertEqual(without(logs, facts, ("a", 2))[1],
                         [(("a", 1), ("b", 0)), (("b", 0), ("a", 2)), (("a", 3), ("a", 2)), (("a", 1), ("a", 3))])
        self.assertEqual(without(logs, facts, ("b", 0))[1], facts[2:])

    def test_order_and_duplicates_of_facts_stay(self):
        one, other = (("b", 1), ("a", 4)), (("a", 3), ("a", 4))
        self.assertEqual(without(example(), [one, other, one, one], ("a", 2))[1],
                         [(("b", 1), ("a", 3)), (("a", 2), ("a", 3)), (("b", 1), ("a", 3)), (("b", 1), ("a", 3))])

    def test_keys_are_ascending(self):
        logs = {"c": [("size", 0)], "a": [("size", 0)], "b": []}
        self.assertEqual(list(without(logs, [], ("c", 0))[0]), ["a", "b", "c"])

    def test_against_the_words(self):
        for logs, facts in small_cases() + chance_cases(21, 200) + many_logs(22, 60):
            for place in all_places(logs):
                found = without(logs, facts, place)
                self.assertIs(type(found), tuple)
                self.assertEqual(found, slow_without(logs, facts, place), (logs, facts, place))
                self.assertTrue(is_logs(found[0]))

    def test_great_logs(self):
        logs, order = great_logs(23)
        facts = [(order[at], order[at + 150]) for at in range(200)]
        for place in random.Random(24).sample(order, 60):
            self.assertEqual(without(logs, facts, place), slow_without(logs, facts, place))


class Repairs(unittest.TestCase):
    def test_consistent_already(self):
        # Without the pop or a steal, an item stays that the size 0 denies.
        self.assertEqual(repairs(example(), []), [("a", 0), ("a", 1), ("a", 3), ("a", 4)])
        self.assertEqual(repairs(example(), [(("b", 0), ("a", 1))]), [("a", 0), ("a", 1), ("a", 3), ("a", 4)])
        self.assertEqual(repairs({"a": [("size", 0), ("size", 0)], "b": [("size", 0)]}, []),
                         [("a", 0), ("a", 1), ("b", 0)])

    def test_no_repairs_at_all(self):
        self.assertEqual(repairs({"a": []}, []), [])
        self.assertEqual(repairs({"a": [("size", 1)], "b": [("size", 1)]}, []), [])
        self.assertEqual(repairs({"a": [("size", 1)] * 2 + [("size", 0)] * 58}, []), [])

    def test_one_entry_spoils(self):
        self.assertEqual(repairs({"a": [("push", "x"), ("size", 5), ("pop", "x")], "b": [("size", 0)]}, []), [("a", 1)])

    def test_facts_spoil(self):
        logs = {"a": [("size", 0), ("size", 0)], "b": [("size", 0)]}
        self.assertEqual(repairs(logs, [(("a", 1), ("a", 0))]), [("a", 0), ("a", 1)])
        self.assertEqual(repairs(logs, [(("a", 1), ("b", 0)), (("b", 0), ("a", 0))]), [("a", 0), ("a", 1), ("b", 0)])
        self.assertEqual(repairs(logs, [(("a", 0), ("b", 0)), (("b", 0), ("a", 0))]), [("a", 0), ("b", 0)])

    def test_places_are_ascending(self):
        logs = {"b": [("size", 0)] * 12, "a": [("size", 0)] * 11}
        self.assertEqual(repairs(logs, []), all_places(logs))

    def test_all_orders_of_small_logs(self):
        cases = small_cases() + chance_cases(25, 150)
        answers = []
        for logs, facts in cases:
            found = repairs(logs, facts)
            answers.append((consistent(logs, facts), bool(found)))
            self.assertEqual(found, slow_repairs(logs, facts, has_run), (logs, facts))
        for answer in ((True, True), (False, True), (False, False)):
            self.assertGreater(answers.count(answer), 20, answer)

    def test_longer_logs(self):
        for logs, facts in many_logs(26, 25):
            self.assertEqual(repairs(logs, facts), slow_repairs(logs, facts, has_no_conflict), (logs, facts))

    def test_great_logs(self):
        logs, order = great_logs(27)
        found = repairs(logs, [(order[at], order[at + 1]) for at in range(200)])
        self.assertEqual(found, sorted(set(found)))
        # No size is needed for a run.
        self.assertLessEqual({(worker, index) for worker, index in order if logs[worker][index][0] == "size"},
                             set(found))
        self.assertEqual(repairs(logs, [(("a", 5), ("a", 4)), (("b", 5), ("b", 4))]), [])


class Wrong(unittest.TestCase):
    def raises(self, error, function, *arguments):
        with self.assertRaises(error) as caught:
            function(*arguments)
        self.assertIs(type(caught.exception), error)
        self.assertIsInstance(caught.exception, DequeError)
        self.assertIsInstance(caught.exception, ValueError)

    def test_logs_come_first(self):
        for logs in wrong_logs():
            self.raises(NoLogs, repairs, logs, None)
            self.raises(NoLogs, without, logs, None, None)
            self.raises(NoLogs, without, logs, [], ("a", 0))

    def test_facts_come_second(self):
        for facts in wrong_facts():
            self.raises(NoFacts, repairs, example(), facts)
            self.raises(NoFacts, without, example(), facts, None)
            self.raises(NoFacts, without, example(), facts, ("a", 0))

    def test_places(self):
        conflict = [(("a", 4), ("a", 0))]
        for place in WRONG_PLACES:
            self.raises(NoPlace, without, example(), [], place)
            self.raises(NoPlace, without, example(), conflict, place)
        self.raises(NoPlace, without, {"a": []}, [], ("a", 0))


class Results(unittest.TestCase):
    def test_results_are_new(self):
        shared = [("size", 0), ("size", 0)]
        logs = {"b": shared, "a": shared, "c": shared}
        facts = [(("a", 0), ("b", 0))]
        before = copy.deepcopy((logs, facts))
        fewer_logs, fewer_facts = without(logs, facts, ("c", 0))
        given = [logs, facts, shared]
        found = [fewer_logs, fewer_facts, *fewer_logs.values()]
        self.assertEqual(len({id(part) for part in given + found}), 8)
        for log in fewer_logs.values():
            log.append(("size", 1))
        fewer_facts.clear()
        self.assertEqual((logs, facts), before)
        self.assertEqual(len(fewer_logs["a"]), 3)

    def test_results_may_be_passed_back(self):
        logs, facts = example(), [(("a", 2), ("b", 1))]
        while any(logs.values()):
            places = repairs(logs, facts)
            self.assertTrue(places)
            logs, facts = without(logs, facts, places[0])
            self.assertIs(consistent(logs, facts), True)
        self.assertEqual((logs, facts), ({"a": [], "b": []}, []))

    def test_arguments_that_are_changed_in_place_are_read_anew(self):
        logs, facts = {"a": [("push", "x")], "b": [("size", 1)]}, []
        self.assertEqual(repairs(logs, facts), [("b", 0)])
        logs["b"].append(("push", "y"))
        self.assertEqual(without(logs, facts, ("b", 0)), ({"a": [("push", "x")], "b": [("push", "y")]}, []))
        facts.append((("b", 1), ("b", 0)))
        logs["b"].insert(0, ("size", 2))
        self.assertEqual(repairs(logs, facts), [])


if __name__ == "__main__":
    unittest.main()
