"""All points together: what the files of the package say of the same logs, facts and runs."""

import random
import unittest

from dequelogs import graph, logs as logs_file, lost, repair, runs, sizes
from dequelogs.errors import DequeError
from dequelogs.recorder import Recorder
from dequelogs.session import session
from dequelogs.texts import read_facts, read_logs, read_run, write_facts, write_logs, write_run
from oracle import all_places, chance_cases, chance_logs, example, spoiled, workers_of
from session_oracle import line_of

NAMES = [first + second for first in "abcdefghij" for second in "abcdefghij"]


def answer(function, *values):
    """What a function says: its result, or the class and the field of its error."""
    try:
        return function(*values)
    except DequeError as error:
        return type(error), vars(error)


def all_answers(logs, facts):
    """What all functions say of logs and facts."""
    found = [answer(function, logs) for function in (
        logs_file.is_logs, logs_file.pushes, logs_file.removals, logs_file.left_items, graph.precedences,
        lost.lost_reason, lost.lost_needed, lost.lost_possible, lost.lost_run, lost.lost_count)]
    found += [answer(function, logs, facts) for function in (
        graph.consistent, graph.reason, runs.least_run, runs.run_count, repair.repairs)]
    for worker in logs:
        found += [answer(logs_file.stolen_items, logs, worker), answer(sizes.greatest_size, logs, facts, worker),
                  answer(sizes.empty_moment, logs, facts, [worker], None, None)]
    for place in all_places(logs):
        found += [answer(logs_file.open_items, logs, *place), answer(sizes.size_range, logs, facts, place[0], place)]
        found += [answer(function, logs, facts, place) for function in (
            graph.needed_before, graph.needed_after, runs.positions, repair.without)]
        found += [answer(graph.path, logs, facts, place, other) for other in all_places(logs)[:3]]
    return found


def cases(seed):
    """Logs and facts, consistent or not."""
    chance = random.Random(seed)
    found = chance_cases(seed, 60) + [(example(), []), ({"a": []}, [])]
    for many in range(1, 7):
        logs, order = chance_logs(chance, list("abcdef")[:many], 40, NAMES)
        facts = [(order[at], order[at + 7]) for at in range(0, 30, 6)]
        found.append((logs, facts))
        found.append((logs, facts + [(order[39], order[0])]))
        found.append((spoiled(chance, logs), []))
    return found


def recording(logs, facts):
    """The calls of a recorder for logs, such that each item is pushed before it is removed, and for facts."""
    done = {worker: 0 for worker in logs}
    calls = []
    pushed = []
    while len(calls) < sum(map(len, logs.values())):
        for worker, index in done.items():
            if index < len(logs[worker]):
                entry = logs[worker][index]
                if entry[0] != "steal" or entry[2] in pushed:
                    calls.append((entry[0], worker, *entry[1:]))
                    done[worker] += 1
                    if entry[0] == "push":
                        pushed.append(entry[1])
                    break
        else:
            return None
    return calls + [("fact", one, other) for one, other in facts]


class Whole(unittest.TestCase):
    def test_texts_that_are_read_back(self):
        for logs, facts in cases(41):
            copy, about = read_logs(write_logs(logs)), read_facts(write_facts(facts))
            self.assertEqual((copy, about), (logs, facts))
            self.assertEqual(all_answers(copy, about), all_answers(logs, facts))

    def test_runs_that_are_read_back(self):
        for logs, facts in cases(42):
            if graph.consistent(logs, facts):
                run = runs.least_run(logs, facts)
                self.assertEqual(read_run(write_run(run)), run)
                self.assertIs(runs.is_run(logs, facts, read_run(write_run(run))), True)
                self.assertEqual(runs.replay(logs, read_run(write_run(run)))[-1], logs_file.left_items(logs))

    def test_recorders(self):
        recorded = 0
        for logs, facts in cases(43):
            calls = recording(logs, facts)
            if calls is not None:
                r = Recorder(sorted(logs))
                for word, *values in calls:
                    self.assertIsNone(getattr(r, word)(*values))
                self.assertEqual((r.logs(), r.facts(), len(r)), (logs, facts, len(calls)))
                self.assertEqual(r.status(), graph.reason(logs, facts))
                self.assertEqual(all_answers(r.logs(), r.facts()), all_answers(logs, facts))
                recorded += 1
        self.assertGreater(recorded, 40)

    def test_sessions(self):
        for logs, facts in cases(44):
            calls = recording(logs, facts)
            if calls is not None:
                places = all_places(logs)
                items = list(logs_file.pushes(logs))
                questions = [("before", one, other) for one in places[:5] for other in places[-5:]]
                questions += [("meet", one, other) for one in items[:5] for other in items[-5:]]
                questions += [("logs",), ("status",), ("least",), ("lost",)]
                lines = [line_of("workers", sorted(logs))] + [line_of(*call) for call in calls + questions]
                expected = ["ok"] * (1 + len(calls)) + [told(logs, facts, *question) for question in questions]
                self.assertEqual(session("\n".join(lines)).split("\n"), expected, lines)

    def test_repairs_make_consistent(self):
        repaired = 0
        for logs, facts in cases(45):
            for place in repair.repairs(logs, facts):
                fewer_logs, fewer_facts = repair.without(logs, facts, place)
                self.assertIsNone(graph.reason(fewer_logs, fewer_facts))
                run = read_run(write_run(runs.least_run(fewer_logs, fewer_facts)))
                self.assertIs(runs.is_run(fewer_logs, fewer_facts, run), True)
                repaired += not graph.consistent(logs, facts)
        self.assertGreater(repaired, 20)

    def test_runs_of_chance_are_recorded(self):
        for seed in range(5):
            logs, order = chance_logs(random.Random(seed), list("abcd"), 60, NAMES)
            r = Recorder(list("abcd"))
            for count, (worker, index) in enumerate(order):
                word, *values = logs[worker][index]
                getattr(r, word)(worker, *values)
                self.assertIsNone(r.status())
                run = workers_of(order[:count + 1])
                self.assertIs(runs.is_run(r.logs(), r.facts(), read_run(write_run(run))), True)


def told(logs, facts, word, *values):
    """The answer that a session gives to a question about logs and facts."""
    found = {
        "before": lambda: graph.must_precede(logs, facts, *values),
        "meet": lambda: sizes.can_meet(logs, facts, *values),
        "logs": lambda: "; ".join(write_logs(logs).split("\n")),
        "status": lambda: (graph.reason(logs, facts) or ["consistent"])[0],
        "least": lambda: write_run(runs.least_run(logs, facts)),
        "lost": lambda: lost.lost_count(logs),
    }
    try:
        value = found[word]()
    except DequeError as error:
        return type(error).__name__
    return str({True: "yes", False: "no"}[value] if isinstance(value, bool) else value)


if __name__ == "__main__":
    unittest.main()
