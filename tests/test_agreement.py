"""Points 3, 4 and 7: the answers against a list of all runs that is made by replaying."""

import unittest

from dequelogs.errors import Conflict
from dequelogs.graph import (consistent, must_precede, needed_after, needed_before, path, precedences, reason, shows)
from oracle import (all_orders, all_places, all_runs, certificates, chance_cases, example, goes_before, small_logs)


class Agreement(unittest.TestCase):
    def test_the_example_has_four_runs(self):
        runs = ["".join(worker for worker, index in run) for run in all_runs(example(), [])]
        self.assertEqual(sorted(runs), sorted(["abaaaba", "aabaaba", "aaababa", "aaaabba"]))

    def test_small_logs(self):
        for logs in small_logs(4):
            self.compare(logs, [])

    def test_small_logs_with_each_fact(self):
        for logs in small_logs(3):
            for one in all_places(logs):
                for other in all_places(logs):
                    if one != other:
                        self.compare(logs, [(one, other)])

    def test_chance_logs(self):
        cases = chance_cases(3, 250)
        answers = [consistent(logs, facts) for logs, facts in cases]
        self.assertGreater(min(answers.count(True), answers.count(False)), 60)
        for logs, facts in cases:
            self.compare(logs, facts)

    def test_every_order_of_the_precedences_is_a_run(self):
        for logs, facts in chance_cases(4, 100):
            if not certificates(logs):
                orders = all_orders(all_places(logs), precedences(logs) + facts)
                self.assertEqual(sorted(orders), sorted(all_runs(logs, facts)), (logs, facts))

    def test_positions(self):
        for logs, facts in chance_cases(5, 100):
            runs = all_runs(logs, facts)
            if runs:
                for place in all_places(logs):
                    least = len(needed_before(logs, facts, place))
                    greatest = len(runs[0]) - 1 - len(needed_after(logs, facts, place))
                    found = sorted({run.index(place) for run in runs})
                    self.assertEqual(found, list(range(least, greatest + 1)), (logs, facts, place))

    def compare(self, logs, facts):
        runs = all_runs(logs, facts)
        self.assertIs(consistent(logs, facts), bool(runs), (logs, facts))
        if runs:
            self.assertIsNone(reason(logs, facts))
            self.compare_places(logs, facts, runs)
        else:
            self.assertTrue(shows(logs, facts, reason(logs, facts)))
            self.compare_conflicts(logs, facts)

    def compare_places(self, logs, facts, runs):
        places = all_places(logs)
        for one in places:
            before = [other for other in places if all(run.index(other) < run.index(one) for run in runs)]
            after = [other for other in places if all(run.index(one) < run.index(other) for run in runs)]
            self.assertEqual(needed_before(logs, facts, one), before, (logs, facts, one))
            self.assertEqual(needed_after(logs, facts, one), after, (logs, facts, one))
            for other in places:
                self.assertIs(must_precede(logs, facts, one, other), other in after, (logs, facts, one, other))
                self.compare_path(logs, facts, one, other, other in after)

    def compare_path(self, logs, facts, one, other, expected):
        found = path(logs, facts, one, other)
        if not expected:
            self.assertIsNone(found)
            return
        self.assertIs(type(found), list)
        self.assertEqual([found[0], found[-1]], [one, other])
        for place, later in zip(found, found[1:]):
            self.assertTrue(goes_before(logs, facts, place, later), (logs, facts, found))

    def compare_conflicts(self, logs, facts):
        place = all_places(logs)[0]
        for call in (must_precede, path, needed_before, needed_after):
            rest = [place] * (2 if call in (must_precede, path) else 1)
            with self.assertRaises(Conflict) as caught:
                call(logs, facts, *rest)
            self.assertEqual(caught.exception.reason, reason(logs, facts))


if __name__ == "__main__":
    unittest.main()
