"""Point 14: sessions."""

import inspect
import random
import unittest

from dequelogs import session as session_file
from dequelogs.session import session
from oracle import chance_logs, example
from session_oracle import SlowSession, chance_line, line_of

NAMES = [first + second for first in "abcdefghijklmnop" for second in "abcdefghijklmnop"]

# The lines of the example logs.
LINES = ["workers a b", "push a x", "push a y", "pop a y", "push a z", "size a 0", "steal b a x", "steal b a z"]


class Case(unittest.TestCase):
    def answers(self, *rows):
        """A list of lines with their answers: each is a tuple."""
        lines = [line for line, answer in rows]
        found = session("\n".join(lines))
        self.assertIs(type(found), str)
        self.assertEqual(list(zip(lines, found.split("\n"), strict=True)), list(rows))

    def after(self, lines, *rows):
        """Lines with their answers, after lines that are answered by ok."""
        self.answers(*[(line, "ok") for line in lines], *rows)


class Examples(Case):
    def test_example(self):
        self.assertEqual(session("workers a b\npush a x\nsteal b a x\nstatus\nlogs"),
                         "ok\nok\nok\nconsistent\na: +x; b: <a.x")

    def test_interface(self):
        self.assertEqual(session.__module__, "dequelogs.session")
        self.assertIs(vars(session_file)["session"], session)
        self.assertEqual(list(inspect.signature(session).parameters), ["rows"])
        self.assertEqual(session(rows="workers a\nlogs"), "ok\na:")


class Lines(Case):
    def test_calls(self):
        self.after(LINES, ("logs", "a: +x +y -y +z =0; b: <a.x <a.z"), ("fact a 2 b 0", "ok"), ("undo", "ok"),
                   ("undo", "ok"), ("logs", "a: +x +y -y +z =0; b: <a.x"))

    def test_questions(self):
        self.after(LINES, ("status", "consistent"), ("least", "a a a a b b a"), ("lost", "1"),
                   ("before a 0 b 1", "yes"), ("before a 2 b 0", "no"), ("before a 0 a 0", "no"),
                   ("meet x y", "yes"), ("meet y z", "no"), ("meet x x", "yes"))

    def test_lost(self):
        self.after(["workers a b", "push a x", "push a y", "size a 1"], ("lost", "2"), ("status", "present"),
                   ("size a 2", "ok"), ("lost", "0"), ("undo", "ok"), ("push b z", "ok"), ("lost", "4"))

    def test_status_names_each_reason(self):
        self.after(["workers a b", "push a x", "push a y", "pop a x"], ("status", "newer"))
        self.after(["workers a b", "push a x", "push a y", "steal b a y"], ("status", "kept"))
        self.after(["workers a", "size a 1"], ("status", "few"))
        self.after(["workers a", "push a x", "size a 0"], ("status", "present"))
        self.after(["workers a b", "size a 0", "size b 0", "fact a 0 b 0", "fact b 0 a 0"], ("status", "cycle"),
                   ("least", "Conflict"), ("before a 0 b 0", "Conflict"), ("undo", "ok"), ("status", "consistent"))

    def test_nothing_recorded(self):
        self.after(["workers a b"], ("logs", "a:; b:"), ("status", "consistent"), ("least", "-"), ("lost", "1"),
                   ("undo", "Nothing"), ("before a 0 b 0", "NoPlace"), ("meet x x", "NoItem"))
        self.after(["workers a"], ("logs", "a:"))

    def test_facts_count(self):
        lines = ["workers a b", "size a 0", "size b 0"]
        self.after(lines, ("least", "a b"), ("before b 0 a 0", "no"), ("fact b 0 a 0", "ok"), ("least", "b a"),
                   ("before b 0 a 0", "yes"), ("undo", "ok"), ("least", "a b"), ("before b 0 a 0", "no"))
        lines = ["workers a b", "push a x", "steal b a x", "push a y"]
        self.after(lines, ("meet x y", "yes"), ("fact b 0 a 1", "ok"), ("meet x y", "no"), ("lost", "2"))


class ErrorsOfCalls(Case):
    def test_entries(self):
        self.after(["workers a b", "push a x"], ("push c y", "NoWorker"), ("push A y", "NoWorker"),
                   ("push a Y", "NoItem"), ("push a abcdefghi", "NoItem"), ("push a x", "NoEntry"),
                   ("pop b x", "NoEntry"), ("pop c X", "NoWorker"), ("pop a X", "NoItem"), ("pop a y", "NoEntry"),
                   ("size c 0", "NoWorker"), ("size a 61", "NoEntry"), ("size a 999999999", "NoEntry"),
                   ("steal c a x", "NoWorker"), ("steal b c x", "NoWorker"), ("steal b a X", "NoItem"),
                   ("steal b a y", "NoEntry"), ("steal a a x", "NoEntry"), ("logs", "a: +x; b:"))

    def test_a_call_that_fails_between_two_that_hold(self):
        self.after(["workers a", "push a x"], ("push a x", "NoEntry"), ("pop a x", "ok"), ("logs", "a: +x -x"),
                   ("undo", "ok"), ("logs", "a: +x"), ("undo", "ok"), ("undo", "Nothing"), ("push a x", "ok"))

    def test_places(self):
        self.after(["workers a b", "size a 0", "size b 0"], ("fact a 1 b 0", "NoPlace"), ("fact a 0 c 0", "NoPlace"),
                   ("fact A 0 b 0", "NoPlace"), ("fact a 0 a 0", "NoPlace"), ("fact a 0 b 999999999", "NoPlace"),
                   ("before a 1 b 0", "NoPlace"), ("before a 0 b 1", "NoPlace"), ("before ? 0 b 0", "NoPlace"),
                   ("fact a 0 b 0", "ok"), ("before a 0 b 0", "yes"))

    def test_items(self):
        self.after(["workers a b", "push a x"], ("meet x y", "NoItem"), ("meet y x", "NoItem"), ("meet X x", "NoItem"),
                   ("meet x ?", "NoItem"), ("meet x x", "yes"), ("size a 2", "ok"), ("meet x x", "Conflict"),
                   ("meet x y", "NoItem"), ("before a 9 a 0", "NoPlace"), ("least", "Conflict"), ("lost", "0"))

    def test_limits(self):
        self.after(["workers a b"] + ["size a 0"] * 60, ("size a 0", "NoEntry"), ("size b 0", "ok"))
        self.after(["workers a", "size a 0", "size a 0"] + ["fact a 0 a 1"] * 200, ("fact a 0 a 1", "NoEntry"),
                   ("fact a 0 a 0", "NoPlace"), ("undo", "ok"), ("fact a 1 a 0", "ok"), ("status", "cycle"))


class OtherLines(Case):
    def test_too_few_or_too_many_words(self):
        forms = ["push a x", "pop a x", "size a 0", "steal b a x", "fact a 0 b 0", "before a 0 b 0", "meet x x",
                 "undo", "logs", "status", "least", "lost"]
        rows = []
        for form in forms:
            words = form.split(" ")
            for line in (" ".join(words[:-1]), f"{form} x", f"{form} 0", f"{form} {form}"):
                if line != "":
                    rows.append((line, "?"))
        self.after(["workers a b", "push a x", "steal b a x"], *rows, ("logs", "a: +x; b: <a.x"))

    def test_blanks(self):
        rows = [(line, "?") for line in (
            "", " ", "  ", " push a y", "push a y ", "push  a y", "push a  y", "push a ", "push  y", "size a  0",
            "size a ", "size  0", "steal b  x", "steal  a x", "steal b a ", "steal  b a x", "fact a 0 b ",
            "fact a  b 0", "fact  0 b 0", "undo ", " undo", "logs ", " logs", "status ", "least  ", "lost ",
            "meet x ", "meet  x", "meet  x x", "before a 0  0", "workers ", "workers  ", "workers a ", "workers  a",
            "workers a  b", " workers a", "workers a b ")]
        self.after(["workers a b", "push a x"], *rows, ("logs", "a: +x; b:"))

    def test_numbers(self):
        for number in ("00", "01", "007", "-1", "+1", "1.0", "x", "1234567890", "0000000000", "1_0", "0x1", "?", "-"):
            self.after(["workers a b", "size a 0", "size b 0"], (f"size a {number}", "?"), (f"size c {number}", "?"),
                       (f"fact a {number} b 0", "?"), (f"fact a 0 b {number}", "?"), (f"fact c 0 c {number}", "?"),
                       (f"before a {number} b 0", "?"), (f"before a 0 b {number}", "?"), ("logs", "a: =0; b: =0"))
        for number in ("1", "60", "9"):
            self.after(["workers a", f"size a {number}"], ("logs", f"a: ={number}"))
        self.after(["workers a"], ("size a 123456789", "NoEntry"), ("before a 123456789 a 0", "NoPlace"))

    def test_other_words(self):
        rows = [(line, "?") for line in (
            "Push a x", "PUSH a x", "push,a,x", "facts", "mark", "undo_to 0", "twin", "shows", "worker a", "workersa",
            "Workers a", "log", "?", "ok", "-", "+x", "a: +x", "len", "consistent", "reason", "lost_count")]
        self.after(["workers a b", "push a x"], *rows, ("logs", "a: +x; b:"))

    def test_empty_lines(self):
        self.assertEqual(session(""), "?")
        self.assertEqual(session("\n"), "?\n?")
        self.assertEqual(session("workers a\n"), "ok\n?")
        self.assertEqual(session("\nworkers a\n\nlogs"), "?\nok\n?\na:")


class Workers(Case):
    def test_before_the_first_good_workers_line(self):
        self.answers(("push a x", "?"), ("logs", "?"), ("status", "?"), ("undo", "?"), ("lost", "?"), ("least", "?"),
                     ("meet x x", "?"), ("before a 0 a 1", "?"), ("fact a 0 a 1", "?"), ("workers", "?"),
                     ("workers b a", "NoWorker"), ("logs", "?"), ("undo", "?"), ("workers a b", "ok"),
                     ("logs", "a:; b:"))

    def test_wrong_words(self):
        for words in ("b a", "a a", "A", "a B", "a b c d e f g", "abcdefghi", "a abcdefghi", "0", "?", "a,b", "a1",
                      "z a b", "a b b", "-", "workers", "a workers b"):
            expected = "ok" if words == "workers" else "NoWorker"
            self.answers((f"workers {words}", expected))
            if expected == "NoWorker":
                self.after(["workers a b", "push a x"], (f"workers {words}", expected), ("logs", "a: +x; b:"),
                           ("push b y", "ok"), ("undo", "ok"))

    def test_no_words(self):
        self.after(["workers a b", "push a x"], ("workers", "?"), ("workers ", "?"), ("logs", "a: +x; b:"))

    def test_one_to_six(self):
        for many in range(1, 7):
            names = list("abcdef")[:many]
            self.answers((f"workers {' '.join(names)}", "ok"), ("logs", "; ".join(f"{name}:" for name in names)))
        self.answers(("workers abcdefgh zz", "ok"), ("logs", "abcdefgh:; zz:"))

    def test_a_second_workers_line(self):
        self.after(["workers a b", "push a x", "workers b c"], ("logs", "b:; c:"), ("undo", "Nothing"),
                   ("push a x", "NoWorker"), ("push b x", "ok"), ("logs", "b: +x; c:"))
        self.after(["workers a b", "push a x", "workers a b"], ("logs", "a:; b:"), ("push a x", "ok"))


class Sessions(Case):
    def test_chance_sessions(self):
        seen = {}
        for seed in range(40):
            chance = random.Random(seed)
            slow = SlowSession()
            rows = []
            for _ in range(chance.choice([1, 20, 100, 300])):
                line = chance_line(chance, slow, NAMES)
                rows.append((line, slow.answer(line)))
                kind = (line.split(" ")[0], rows[-1][1])
                seen[kind] = seen.get(kind, 0) + 1
            self.answers(*rows)
        for kind in [(word, "ok") for word in ("push", "pop", "size", "steal", "fact", "undo", "workers")] + [
                ("status", "consistent"), ("status", "newer"), ("least", "Conflict"), ("before", "yes"),
                ("before", "no"), ("before", "Conflict"), ("meet", "yes"), ("meet", "no"), ("meet", "Conflict"),
                ("lost", "1"), ("lost", "0"), ("workers", "NoWorker"), ("logs", "?"), ("push", "?")]:
            self.assertGreater(seen.get(kind, 0), 1, kind)

    def test_long_sessions_that_stay_consistent(self):
        for seed in range(6):
            chance = random.Random(seed)
            workers = list("abcdef")[:seed + 1]
            logs, order = chance_logs(chance, workers, 60 + 30 * seed, NAMES)
            slow = SlowSession()
            lines = [line_of("workers", workers)]
            for worker, index in order:
                word, *values = logs[worker][index]
                lines.append(line_of(word, worker, *values))
                if chance.random() < 0.2:
                    lines.append(chance.choice(["status", "least", "lost"]))
            rows = [(line, slow.answer(line)) for line in (lines + ["logs", "status", "least", "lost"])[:300]]
            self.assertIn(("status", "consistent"), rows)
            self.answers(*rows)

    def test_sessions_are_independent(self):
        for _ in range(2):
            self.after(LINES, ("logs", "a: +x +y -y +z =0; b: <a.x <a.z"))
            self.answers(("logs", "?"))
        self.assertEqual(len(example()["a"]), 5)


if __name__ == "__main__":
    unittest.main()
