"""Point 12: the recorder."""

import copy
import inspect
import random
import unittest

from dequelogs import recorder as recorder_file
from dequelogs.errors import DequeError, NoEntry, NoItem, NoNumber, NoPlace, NoWorker, Nothing
from dequelogs.graph import reason
from dequelogs.recorder import Recorder
from oracle import all_places, chance_logs, example
from recorder_oracle import SlowRecorder, chance_call
from wrong import STRANGE, WRONG_NAMES, WRONG_PLACES

SIGNATURES = {"push": ["worker", "item"], "pop": ["worker", "item"], "size": ["worker", "n"],
              "steal": ["worker", "victim", "item"], "fact": ["place", "other"], "logs": [], "facts": [], "status": [],
              "undo": [], "mark": [], "undo_to": ["mark"], "twin": []}

NAMES = [first + second for first in "abcdefghijklmnop" for second in "abcdefghijklmnop"]


def filled():
    """A recorder that holds the example logs, with a call for each entry."""
    r = Recorder(["a", "b"])
    for item in ("x", "y"):
        r.push("a", item)
    r.pop("a", "y")
    r.push("a", "z")
    r.size("a", 0)
    for item in ("x", "z"):
        r.steal("b", "a", item)
    return r


def state(r):
    """All that a recorder tells of what it holds, its marks among it: a twin is asked for their number."""
    return r.logs(), r.facts(), len(r), r.twin().mark()


class Case(unittest.TestCase):
    def refuses(self, r, error, word, *values):
        """A call raises exactly this error and changes nothing."""
        before = state(r)
        with self.assertRaises(error) as caught:
            getattr(r, word)(*values)
        self.assertIs(type(caught.exception), error, (word, values))
        self.assertIsInstance(caught.exception, DequeError)
        self.assertIsInstance(caught.exception, ValueError)
        self.assertEqual(state(r), before)


class Examples(Case):
    def test_logs_and_status(self):
        r = Recorder(["a", "b"])
        r.push("a", "x")
        r.steal("b", "a", "x")
        self.assertEqual([r.logs(), r.status(), len(r)],
                         [{"a": [("push", "x")], "b": [("steal", "a", "x")]}, None, 2])

    def test_fact(self):
        r = Recorder(["a", "b"])
        r.push("a", "x")
        r.steal("b", "a", "x")
        r.fact(("b", 0), ("a", 0))
        self.assertEqual([r.facts(), r.status()[0]], [[(("b", 0), ("a", 0))], "cycle"])

    def test_no_entry(self):
        self.refuses(Recorder(["a", "b"]), NoEntry, "steal", "b", "a", "x")

    def test_marks(self):
        r = Recorder(["a", "b"])
        r.push("a", "x")
        m = r.mark()
        r.size("a", 0)
        t = r.twin()
        r.undo_to(m)
        self.assertEqual([m, r.status(), t.status()], [0, None, ("present", "a", 1, "x")])

    def test_no_place(self):
        self.refuses(Recorder(["a", "b"]), NoPlace, "fact", ("a", 0), ("b", 0))


class Interface(Case):
    def test_methods_stand_in_the_class_itself(self):
        self.assertEqual(Recorder.__module__, "dequelogs.recorder")
        self.assertIs(vars(recorder_file)["Recorder"], Recorder)
        self.assertEqual(list(inspect.signature(Recorder).parameters), ["workers"])
        for word, names in SIGNATURES.items():
            self.assertEqual(list(inspect.signature(vars(Recorder)[word]).parameters), ["self"] + names)
        self.assertIn("__len__", vars(Recorder))

    def test_arguments_by_name(self):
        r = Recorder(workers=["a", "b"])
        self.assertIsNone(r.push(worker="a", item="x"))
        self.assertIsNone(r.push(item="y", worker="a"))
        self.assertIsNone(r.pop(item="y", worker="a"))
        self.assertIsNone(r.size(n=1, worker="a"))
        self.assertIsNone(r.steal(item="x", victim="a", worker="b"))
        self.assertIsNone(r.fact(other=("a", 3), place=("a", 0)))
        self.assertEqual(r.mark(), 0)
        self.assertIsNone(r.undo_to(mark=0))
        self.assertEqual(r.logs()["b"], [("steal", "a", "x")])
        self.assertEqual(r.facts(), [(("a", 0), ("a", 3))])

    def test_identity(self):
        one, other = Recorder(["a"]), Recorder(["a"])
        self.assertTrue(one == one and one != other and other != one)
        self.assertFalse(one == other or one != one)
        self.assertTrue(one != one.twin())
        self.assertEqual(len({one: 1, other: 2, one.twin(): 3}), 3)


class Workers(Case):
    def test_one_to_six(self):
        for many in range(1, 7):
            names = list("abcdef")[:many]
            self.assertEqual(Recorder(names).logs(), {name: [] for name in names})
        self.assertEqual(list(Recorder(["abcdefgh", "b", "zz"]).logs()), ["abcdefgh", "b", "zz"])

    def test_wrong_workers(self):
        wrong = STRANGE + [[], list("abcdefg"), ["b", "a"], ["a", "a"], ["a", "b", "b"], ("a", "b"), "ab", {"a": []},
                           ["a", None], ["a", ["b"]], [("a",)], [{"a": 1}], [True], [0, 1], [["a"]], ["a", 1]]
        wrong += [[name] for name in WRONG_NAMES] + [["a", name] for name in WRONG_NAMES]
        for workers in wrong:
            with self.assertRaises(NoWorker) as caught:
                Recorder(workers)
            self.assertIs(type(caught.exception), NoWorker)

    def test_the_list_is_copied(self):
        workers = ["a", "b"]
        r = Recorder(workers)
        workers.append("c")
        self.assertEqual(list(r.logs()), ["a", "b"])
        self.refuses(r, NoWorker, "push", "c", "x")
        self.assertEqual(workers, ["a", "b", "c"])


class Entries(Case):
    def test_all_kinds(self):
        r = filled()
        self.assertEqual(r.logs(), example())
        self.assertEqual([r.facts(), r.status(), len(r)], [[], None, 7])

    def test_wrong_workers(self):
        r = filled()
        for worker in ("c", "", "A", "a ", "ab", "abcdefghi"):
            self.refuses(r, NoWorker, "push", worker, "v")
            self.refuses(r, NoWorker, "pop", worker, "x")
            self.refuses(r, NoWorker, "size", worker, 0)
            self.refuses(r, NoWorker, "steal", worker, "a", "x")
            self.refuses(r, NoWorker, "steal", "b", worker, "x")

    def test_wrong_items(self):
        r = filled()
        for item in WRONG_NAMES:
            self.refuses(r, NoItem, "push", "a", item)
            self.refuses(r, NoItem, "pop", "a", item)
            self.refuses(r, NoItem, "steal", "b", "a", item)

    def test_the_first_wrong_argument_decides(self):
        r = filled()
        self.refuses(r, NoWorker, "push", "c", "X")
        self.refuses(r, NoWorker, "pop", "c", "")
        self.refuses(r, NoWorker, "size", "c", 61)
        self.refuses(r, NoWorker, "steal", "c", "c", "X")
        self.refuses(r, NoWorker, "steal", "a", "c", "X")
        self.refuses(r, NoItem, "steal", "a", "a", "X")
        self.refuses(r, NoItem, "push", "a", "abcdefghi")

    def test_items_that_do_not_fit(self):
        r = filled()
        for word, *values in (("push", "a", "x"), ("push", "b", "x"), ("push", "a", "y"), ("pop", "a", "v"),
                              ("pop", "a", "y"), ("pop", "a", "x"), ("pop", "b", "x"), ("steal", "b", "a", "x"),
                              ("steal", "b", "a", "y"), ("steal", "b", "a", "v"), ("steal", "a", "b", "x")):
            self.refuses(r, NoEntry, word, *values)
        r.push("b", "v")
        self.refuses(r, NoEntry, "pop", "a", "v")
        self.refuses(r, NoEntry, "steal", "b", "b", "v")
        self.refuses(r, NoEntry, "steal", "b", "a", "v")
        r.steal("a", "b", "v")
        self.refuses(r, NoEntry, "pop", "b", "v")
        self.refuses(r, NoEntry, "steal", "a", "b", "v")

    def test_an_item_that_was_not_pushed_yet(self):
        r = Recorder(["a", "b"])
        self.refuses(r, NoEntry, "steal", "b", "a", "x")
        self.refuses(r, NoEntry, "pop", "a", "x")
        r.push("a", "x")
        self.assertIsNone(r.steal("b", "a", "x"))

    def test_a_steal_from_oneself(self):
        r = Recorder(["a"])
        r.push("a", "x")
        self.refuses(r, NoEntry, "steal", "a", "a", "x")
        self.assertIsNone(r.pop("a", "x"))

    def test_sizes(self):
        r = Recorder(["a"])
        for n in (0, 1, 59, 60):
            self.assertIsNone(r.size("a", n))
        for n in (61, 62, -1, -60, 10 ** 59, -10 ** 59):
            self.refuses(r, NoEntry, "size", "a", n)
        self.assertEqual(r.logs(), {"a": [("size", n) for n in (0, 1, 59, 60)]})

    def test_sixty_entries(self):
        r = Recorder(["a", "b"])
        for count in range(60):
            r.size("a", count)
        r.push("b", "x")
        self.refuses(r, NoEntry, "size", "a", 0)
        self.refuses(r, NoEntry, "push", "a", "y")
        self.refuses(r, NoEntry, "steal", "a", "b", "x")
        self.assertEqual([len(r), len(r.logs()["a"])], [61, 60])
        r.undo()
        r.undo()
        self.assertIsNone(r.push("a", "y"))

    def test_consistency_is_not_checked(self):
        r = Recorder(["a", "b"])
        for item in ("x", "y"):
            r.push("a", item)
        r.pop("a", "x")
        self.assertEqual(r.status(), ("newer", "a", 2, "y"))
        self.assertIsNone(r.size("a", 60))
        self.assertIsNone(r.steal("b", "a", "y"))
        self.assertEqual(r.status(), ("kept", "a", 1, "x"))
        self.assertEqual(len(r), 5)

    def test_a_call_that_fails_between_two_that_hold(self):
        r = Recorder(["a"])
        r.push("a", "x")
        self.refuses(r, NoEntry, "push", "a", "x")
        r.pop("a", "x")
        self.assertEqual([r.logs(), len(r)], [{"a": [("push", "x"), ("pop", "x")]}, 2])
        r.undo()
        self.assertEqual([r.logs(), len(r)], [{"a": [("push", "x")]}, 1])
        r.undo()
        self.refuses(r, Nothing, "undo")


class Facts(Case):
    def test_facts_are_kept_in_order(self):
        r = filled()
        facts = [(("a", 2), ("b", 1)), (("a", 0), ("a", 4)), (("a", 2), ("b", 1)), (("b", 1), ("b", 0))]
        for place, other in facts:
            self.assertIsNone(r.fact(place, other))
        self.assertEqual([r.facts(), len(r), r.logs()], [facts, 11, example()])
        self.assertEqual(r.status(), reason(example(), facts))

    def test_wrong_places(self):
        r = filled()
        for place in WRONG_PLACES:
            self.refuses(r, NoPlace, "fact", place, ("a", 0))
            self.refuses(r, NoPlace, "fact", ("a", 0), place)
            self.refuses(r, NoPlace, "fact", place, place)
        for place in all_places(example()):
            self.refuses(r, NoPlace, "fact", place, place)

    def test_two_hundred_facts(self):
        r = filled()
        for _ in range(200):
            r.fact(("a", 0), ("b", 1))
        self.refuses(r, NoEntry, "fact", ("a", 0), ("b", 1))
        self.refuses(r, NoEntry, "fact", ("b", 1), ("a", 0))
        # The places are judged before the number of the facts.
        self.refuses(r, NoPlace, "fact", ("a", 0), ("a", 0))
        self.refuses(r, NoPlace, "fact", ("a", 5), ("a", 0))
        self.refuses(r, NoPlace, "fact", ("a", 0), ("c", 0))
        self.assertEqual([r.facts(), len(r)], [[(("a", 0), ("b", 1))] * 200, 207])
        self.assertIsNone(r.size("b", 0))
        r.undo()
        r.undo()
        self.assertIsNone(r.fact(("b", 1), ("a", 0)))
        self.assertEqual(len(r.facts()), 200)


class Undo(Case):
    def test_nothing_to_undo(self):
        r = Recorder(["a"])
        self.refuses(r, Nothing, "undo")
        r.mark()
        self.refuses(r, Nothing, "undo")
        r.push("a", "x")
        self.assertIsNone(r.undo())
        self.refuses(r, Nothing, "undo")

    def test_undo_of_each_kind(self):
        r = filled()
        r.fact(("a", 0), ("b", 0))
        states = []
        while len(r) > 0:
            states.append((r.logs(), r.facts()))
            r.undo()
        self.assertEqual(len(states), 8)
        self.assertEqual(states[1], (example(), []))
        self.assertEqual(states[2], ({"a": example()["a"], "b": example()["b"][:1]}, []))
        self.assertEqual(r.logs(), {"a": [], "b": []})

    def test_an_undone_item_may_be_pushed_again(self):
        r = Recorder(["a", "b"])
        r.push("a", "x")
        r.undo()
        r.push("b", "x")
        self.assertEqual(r.logs(), {"a": [], "b": [("push", "x")]})

    def test_undo_after_undo_to(self):
        r = filled()
        first = r.mark()
        r.size("b", 0)
        r.undo_to(first)
        r.undo()
        self.assertEqual([r.logs()["b"], len(r)], [[("steal", "a", "x")], 6])
        self.refuses(r, NoNumber, "undo_to", first)


class Marks(Case):
    def test_numbers(self):
        r = Recorder(["a"])
        self.assertEqual([r.mark(), r.mark(), r.mark()], [0, 1, 2])
        self.assertEqual(len(r), 0)

    def test_marks_that_do_not_exist(self):
        r = filled()
        for mark in (0, 1, -1, 10 ** 59, -10 ** 59):
            self.refuses(r, NoNumber, "undo_to", mark)
        r.mark()
        r.mark()
        for mark in (2, -1, -2, 10 ** 59):
            self.refuses(r, NoNumber, "undo_to", mark)

    def test_undo_to_keeps_its_mark_and_removes_later_ones(self):
        r = Recorder(["a"])
        marks = []
        for n in range(4):
            marks.append(r.mark())
            r.size("a", n)
        self.assertEqual(marks, [0, 1, 2, 3])
        self.assertIsNone(r.undo_to(2))
        self.assertEqual(r.logs(), {"a": [("size", 0), ("size", 1)]})
        self.refuses(r, NoNumber, "undo_to", 3)
        r.undo_to(2)
        self.assertEqual(r.mark(), 3)
        r.undo_to(0)
        self.assertEqual([len(r), r.mark()], [0, 1])

    def test_later_marks_of_the_same_state(self):
        r = filled()
        self.assertEqual([r.mark(), r.mark(), r.mark()], [0, 1, 2])
        r.undo_to(1)
        self.refuses(r, NoNumber, "undo_to", 2)
        self.assertEqual([r.mark(), len(r)], [2, 7])

    def test_undo_removes_the_marks_that_were_made_after_the_call(self):
        r = Recorder(["a"])
        r.mark()
        r.size("a", 0)
        r.mark()
        r.mark()
        r.undo()
        self.refuses(r, NoNumber, "undo_to", 1)
        self.assertIsNone(r.undo_to(0))
        self.assertEqual(r.mark(), 1)

    def test_undo_keeps_the_marks_that_were_made_before_the_call(self):
        r = Recorder(["a"])
        r.size("a", 0)
        r.mark()
        r.size("a", 1)
        r.undo()
        r.size("a", 2)
        r.undo_to(0)
        self.assertEqual(r.logs(), {"a": [("size", 0)]})
        r.undo()
        self.refuses(r, NoNumber, "undo_to", 0)

    def test_a_failed_undo_keeps_the_marks(self):
        r = Recorder(["a"])
        r.mark()
        self.refuses(r, Nothing, "undo")
        self.assertIsNone(r.undo_to(0))

    def test_facts_come_back(self):
        r = filled()
        r.fact(("a", 0), ("b", 0))
        mark = r.mark()
        r.fact(("b", 1), ("b", 0))
        r.push("b", "v")
        r.fact(("b", 2), ("a", 0))
        r.undo_to(mark)
        self.assertEqual([r.facts(), r.logs()], [[(("a", 0), ("b", 0))], example()])


class Twins(Case):
    def test_twins_are_independent(self):
        r = filled()
        r.fact(("a", 0), ("b", 0))
        t = r.twin()
        self.assertIs(type(t), Recorder)
        self.assertEqual(state(t), state(r))
        t.push("b", "v")
        r.undo()
        self.assertEqual([len(t), len(r), t.facts(), r.facts()], [9, 7, [(("a", 0), ("b", 0))], []])
        r.push("b", "w")
        self.assertEqual([t.logs()["b"][-1], r.logs()["b"][-1]], [("push", "v"), ("push", "w")])

    def test_marks_are_copied(self):
        r = Recorder(["a"])
        r.mark()
        r.size("a", 0)
        r.mark()
        t = r.twin()
        self.assertEqual([t.mark(), t.mark(), r.mark()], [2, 3, 2])
        t.undo_to(0)
        self.assertEqual([len(t), len(r)], [0, 1])
        self.refuses(t, NoNumber, "undo_to", 1)
        self.assertIsNone(r.undo_to(2))
        r.undo()
        self.refuses(r, NoNumber, "undo_to", 1)
        self.assertIsNone(r.twin().undo_to(0))

    def test_twin_of_a_twin(self):
        r = filled()
        t = r.twin().twin()
        r.undo_to(r.mark())
        for _ in range(7):
            t.undo()
        self.assertEqual([len(t), r.logs()], [0, example()])


class Results(Case):
    def test_results_are_new(self):
        r = filled()
        r.fact(("a", 4), ("a", 0))
        found = [r.logs(), r.logs(), r.twin().logs(), r.facts(), r.facts(), r.twin().facts(), r.status()[1],
                 r.status()[1]]
        found += [log for logs in found[:3] for log in logs.values()]
        self.assertEqual(len({id(thing) for thing in found}), 14)

    def test_changed_results_change_nothing(self):
        r = filled()
        r.fact(("a", 4), ("a", 0))
        before = copy.deepcopy(state(r))
        r.logs()["a"].append(("size", 1))
        r.logs()["b"].clear()
        r.logs()["c"] = []
        r.facts().clear()
        r.facts().append(None)
        r.status()[1].clear()
        self.assertEqual(state(r), before)

    def test_empty_logs_are_not_shared(self):
        logs = Recorder(["a", "b"]).logs()
        logs["a"].append(("size", 0))
        self.assertEqual(logs["b"], [])

    def test_keys_are_ascending(self):
        r = Recorder(["a", "b", "c"])
        r.size("c", 0)
        r.size("a", 0)
        self.assertEqual(list(r.logs()), ["a", "b", "c"])
        self.assertEqual(list(r.twin().logs()), ["a", "b", "c"])


class Lives(Case):
    """Recorders that live through many calls, beside slow ones."""

    def test_chance_calls(self):
        seen = {}
        for seed in range(40):
            chance = random.Random(seed)
            workers = list("abcdef")[:chance.randrange(1, 7)]
            pairs = [(Recorder(workers), SlowRecorder(workers))]
            for _ in range(250):
                at = chance.randrange(len(pairs))
                r, slow = pairs[at]
                if chance.random() < 0.01:
                    pairs.append((r.twin(), slow.twin()))
                word, *values = chance_call(chance, slow, NAMES)
                error = slow.error(word, *values)
                seen[(word, error)] = seen.get((word, error), 0) + 1
                if error is None:
                    self.assertEqual(getattr(r, word)(*values), slow.done(word, *values))
                else:
                    self.refuses(r, error, word, *values)
                for one, other in pairs:
                    self.assertEqual((one.logs(), one.facts()), other.recorded())
                    self.assertEqual([len(one), one.twin().mark()], [len(other.calls), len(other.marks)])
        for kind in [(word, None) for word in ("push", "pop", "size", "steal", "fact", "undo", "mark", "undo_to")] + [
                ("push", NoWorker), ("push", NoItem), ("pop", NoEntry), ("size", NoEntry), ("steal", NoEntry),
                ("fact", NoPlace), ("undo_to", NoNumber), ("undo", Nothing)]:
            self.assertGreater(seen.get(kind, 0), 3, kind)

    def test_status(self):
        answers = []
        for seed in range(20):
            chance = random.Random(seed)
            r = Recorder(["a", "b", "c"])
            slow = SlowRecorder(["a", "b", "c"])
            for _ in range(60):
                word, *values = chance_call(chance, slow, NAMES)
                if slow.error(word, *values) is None:
                    getattr(r, word)(*values)
                    slow.done(word, *values)
                    self.assertEqual(r.status(), reason(*slow.recorded()))
                    answers.append(r.status() is None)
        self.assertGreater(min(answers.count(True), answers.count(False)), 100)

    def test_chance_runs(self):
        for seed in range(6):
            logs, order = chance_logs(random.Random(seed), list("abcdef")[:seed + 1], 50 + 25 * seed, NAMES)
            r = Recorder(sorted(logs))
            for worker, index in order:
                word, *values = logs[worker][index]
                self.assertIsNone(getattr(r, word)(worker, *values))
            self.assertEqual([r.logs(), r.status(), len(r)], [logs, None, len(order)])
            for at in range(0, len(order) - 1, 3):
                r.fact(order[at], order[at + 1])
            self.assertIsNone(r.status())
            mark = r.mark()
            r.fact(order[-1], order[0])
            self.assertEqual(r.status(), reason(logs, r.facts()))
            r.undo_to(mark)
            self.assertIsNone(r.status())


if __name__ == "__main__":
    unittest.main()
