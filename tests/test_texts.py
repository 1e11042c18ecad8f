"""Point 13: texts."""

import copy
import inspect
import itertools
import random
import unittest

from dequelogs import texts
from dequelogs.errors import DequeError, NoText
from dequelogs.logs import is_logs
from dequelogs.texts import read_facts, read_logs, read_run, write_facts, write_logs, write_run
from oracle import all_places, chance_logs, example, great_logs, small_logs, spoiled, workers_of
from text_oracle import changed, fault_in_facts, fault_in_logs, fault_in_run
from wrong import WRONG_ITEMS

SIGNATURES = {write_logs: ["logs"], read_logs: ["text"], write_facts: ["facts"], read_facts: ["text"],
              write_run: ["run"], read_run: ["text"]}

NAMES = [first + second + third for first in "abcdef" for second in "abcdef" for third in "abcdef"]

# Each fact is well formed, but its text is long.
LONG_FACT = (("abcdefgh", 123456789), ("abcdefgh", 987654321))


class Case(unittest.TestCase):
    def refuses(self, read, text, at):
        """A read function raises exactly NoText with this number."""
        with self.assertRaises(NoText) as caught:
            read(text)
        self.assertEqual(caught.exception.at, at, (read, text))
        self.assertIs(type(caught.exception.at), int)
        self.assertIs(type(caught.exception), NoText)
        self.assertIsInstance(caught.exception, DequeError)
        self.assertIsInstance(caught.exception, ValueError)

    def agrees(self, read, write, text, fault):
        """A read function does with a text what the document says, and each value has one text only."""
        if fault is not None:
            self.refuses(read, text, fault)
        else:
            self.assertEqual(write(read(text)), text)


class Examples(Case):
    def test_logs(self):
        self.assertEqual(write_logs(example()), "a: +x +y -y +z =0\nb: <a.x <a.z")
        self.assertEqual(read_logs("a:\nb:"), {"a": [], "b": []})
        self.assertEqual(read_logs("a: +x =1"), {"a": [("push", "x"), ("size", 1)]})
        self.refuses(read_logs, "b:\na:", 1)
        logs = {"a": [("push", "x"), ("size", 1)], "b": [("steal", "a", "x")]}
        self.assertEqual(write_logs(logs), "a: +x =1\nb: <a.x")
        self.assertEqual(read_logs("a: +x =1\nb: <a.x"), logs)

    def test_facts(self):
        self.assertEqual(write_facts([(("a", 0), ("b", 1))]), "a.0<b.1")
        self.assertEqual(read_facts("a.0<b.1"), [(("a", 0), ("b", 1))])

    def test_runs(self):
        self.assertEqual([write_run(["a", "b"]), read_run("a b"), read_run("-")], ["a b", ["a", "b"], []])


class Interface(Case):
    def test_names_and_homes(self):
        for function, names in SIGNATURES.items():
            self.assertEqual(list(inspect.signature(function).parameters), names)
            self.assertEqual(function.__module__, "dequelogs.texts")
            self.assertIs(vars(texts)[function.__name__], function)

    def test_arguments_by_name(self):
        self.assertEqual(write_logs(logs={"a": []}), "a:")
        self.assertEqual(read_logs(text="a:"), {"a": []})
        self.assertEqual(write_facts(facts=[]), "-")
        self.assertEqual(read_facts(text="-"), [])
        self.assertEqual(write_run(run=["a"]), "a")
        self.assertEqual(read_run(text="a"), ["a"])
        with self.assertRaises(NoText):
            read_logs(text="")


class Logs(Case):
    def test_entries(self):
        for entry, word in ((("push", "x"), "+x"), (("push", "abcdefgh"), "+abcdefgh"), (("size", 0), "=0"),
                            (("size", 10), "=10"), (("size", 60), "=60")):
            self.assertEqual(write_logs({"a": [entry]}), f"a: {word}")
            self.assertEqual(read_logs(f"a: {word}"), {"a": [entry]})
        text = "a: +abcdefgh -abcdefgh\nzzzzzzzz: +x +y -y"
        self.assertEqual(read_logs(text)["a"], [("push", "abcdefgh"), ("pop", "abcdefgh")])
        self.assertEqual(write_logs(read_logs(text)), text)

    def test_lines_are_ascending(self):
        self.assertEqual(write_logs({"c": [], "aa": [("size", 0)], "b": [], "a": []}), "a:\naa: =0\nb:\nc:")
        self.assertEqual(list(read_logs("a:\naa: =0\nb:\nc:")), ["a", "aa", "b", "c"])

    def test_lines_in_a_wrong_order(self):
        self.refuses(read_logs, "a:\nc:\nb:", 2)
        self.refuses(read_logs, "b:\na:\nc:", 1)
        self.refuses(read_logs, "b: +x\naa: <b.x", 1)
        self.refuses(read_logs, "aa:\na:", 1)
        self.refuses(read_logs, "a:\nb:\na:", 2)

    def test_two_lines_of_one_worker(self):
        self.refuses(read_logs, "a:\na:", 1)
        self.refuses(read_logs, "a: +x\na: -x", 1)
        self.refuses(read_logs, "a:\nb:\nb: =0\nc:", 2)

    def test_the_first_wrong_line_decides(self):
        self.refuses(read_logs, "b: +X\na:", 0)
        self.refuses(read_logs, "b:\na:\nX", 1)
        self.refuses(read_logs, "a: =61\nb\nc", 1)
        self.refuses(read_logs, "a: -x\nb: =01", 1)

    def test_number_of_lines(self):
        self.assertEqual(len(read_logs("a:\nb:\nc:\nd:\ne:\nf:")), 6)
        self.refuses(read_logs, "a:\nb:\nc:\nd:\ne:\nf:\ng:", 7)
        self.refuses(read_logs, "a:\nb:\nc:\nd:\ne:\nf:\ng", 6)
        self.refuses(read_logs, "a:\nb:\nc:\nd:\ne:\nf:\ng:\ng:", 7)

    def test_blanks_and_newlines(self):
        for text, at in (("", 0), (" ", 0), ("\n", 0), ("a: ", 0), (" a:", 0), ("a:  =0", 0), ("a: =0 ", 0),
                         ("a: =0  =0", 0), ("a:\n", 1), ("\na:", 0), ("a:\n\nb:", 1), ("a:\n b:", 1), ("a:\nb: ", 1),
                         ("a : =0", 0), ("a: = 0", 0), ("a: + x", 0), ("-", 0), ("a:=0", 0), ("a: =0=0", 0),
                         ("a: =0\n\n", 1)):
            self.refuses(read_logs, text, at)

    def test_workers(self):
        self.assertEqual(read_logs("abcdefgh:"), {"abcdefgh": []})
        for name in ("abcdefghi", "", "A", "aB", "a1", "1", "?", "a:", "a.b", ":", "a-"):
            self.refuses(read_logs, f"{name}:", 0)
            self.refuses(read_logs, f"a:\n{name}: =0", 1)
        for text in ("a", "a =0", "a; =0", "=0", "+x", "a:b", "a:b:"):
            self.refuses(read_logs, text, 0)

    def test_words(self):
        for word in ("+", "-", "=", "<", "x", "0", "+X", "+x1", "+abcdefghi", "-abcdefghi", "-1", "+0", "++x", "+-x",
                     "=x", "=+1", "=-1", "=00", "=01", "=007", "=1234567890", "=0000000000", "=1.0", "=1_0", "= 1",
                     "<a", "<a.", "<.x", "<.", "<a.x.y", "<a..x", "<a x", "<A.x", "<a.X", "<abcdefghi.x",
                     "<a.abcdefghi", "<a,x", "<a<x", "<<a.x", "a.x", ">a.x", "+a.x", "-a.x", "+x,", "=0;", "+x:"):
            self.refuses(read_logs, f"a: +x\nb: {word}", 1)
            self.refuses(read_logs, f"a: {word}", 0)
            self.refuses(read_logs, f"a: =0 {word} =0\nb:", 0)

    def test_sizes(self):
        for number in (61, 99, 100, 123456789, 999999999):
            self.refuses(read_logs, f"a: ={number}", 1)
            self.refuses(read_logs, f"a:\nb: ={number}\nc:", 3)
        self.refuses(read_logs, "a: =1000000000", 0)

    def test_number_of_entries(self):
        self.assertEqual(read_logs("a:" + " =0" * 60), {"a": [("size", 0)] * 60})
        self.refuses(read_logs, "a:" + " =0" * 61, 1)
        self.refuses(read_logs, "a:" + " =0" * 61 + "\nb:", 2)

    def test_logs_that_break_a_rule(self):
        for logs in WRONG_ITEMS:
            if is_logs({worker: [] for worker in logs}):
                self.refuses(read_logs, write_logs(logs), len(logs))
        self.refuses(read_logs, "a: +x -x -x", 1)
        self.refuses(read_logs, "a: -x +x", 1)
        self.refuses(read_logs, "a: +x\nb: <b.x", 2)
        self.refuses(read_logs, "a: +x <a.x\nb:", 2)
        self.refuses(read_logs, "a: +x\nb: <a.x\nc: <a.x\nd:", 4)

    def test_all_small_logs(self):
        found = {}
        for logs in small_logs(4):
            text = write_logs(logs)
            self.assertEqual(read_logs(text), logs)
            found[text] = found.get(text, 0) + 1
        self.assertEqual(max(found.values()), 1)

    def test_all_short_strings(self):
        for length in range(5):
            for letters in itertools.product("ab:\n =1", repeat=length):
                text = "".join(letters)
                self.agrees(read_logs, write_logs, text, fault_in_logs(text))
        for words in itertools.product(["", "+x", "-x", "=0", "=61", "<a.x", "<b.x", "\nb:", "\na:", "x"], repeat=4):
            text = "a: " + " ".join(words)
            self.agrees(read_logs, write_logs, text, fault_in_logs(text))

    def test_chance_logs(self):
        chance = random.Random(31)
        faults = []
        for _ in range(400):
            workers = list("abcdef")[:chance.randrange(1, 7)]
            logs, _ = chance_logs(chance, workers, chance.randrange(1, 40), NAMES)
            if chance.random() < 0.5:
                logs = spoiled(chance, logs)
            text = write_logs(logs)
            self.assertEqual(read_logs(text), logs)
            self.assertEqual(list(read_logs(text)), workers)
            for _ in range(10):
                other = changed(chance, text)
                faults.append(fault_in_logs(other))
                self.agrees(read_logs, write_logs, other, faults[-1])
        for fault in (None, 0, 1, 2, 3, 4, 5):
            self.assertGreater(faults.count(fault), 50, fault)

    def test_great_logs(self):
        logs, _ = great_logs(32)
        text = write_logs(logs)
        self.assertEqual(text.count(" "), 360)
        self.assertEqual(read_logs(text), logs)

    def test_long_texts(self):
        names = ["".join(letters) for letters in itertools.product("ab", repeat=8)]
        logs = {"z" * 8: [("push", name) for name in names[:60]],
                "y" * 8: [("steal", "z" * 8, name) for name in names[:60]],
                "x" * 8: [("push", name) for name in names[60:120]],
                "w" * 8: [("steal", "x" * 8, name) for name in names[60:120]],
                "v" * 8: [("push", name) for name in names[120:180]],
                "u" * 8: [("steal", "v" * 8, name) for name in names[120:180]]}
        self.assertGreater(len(write_logs(logs)), 4000)
        self.assertEqual(read_logs(write_logs(logs)), logs)


class Facts(Case):
    def test_none(self):
        self.assertEqual([write_facts([]), read_facts("-")], ["-", []])

    def test_several(self):
        facts = [(("b", 10), ("a", 0)), (("a", 0), ("a", 1)), (("b", 10), ("a", 0))]
        self.assertEqual(write_facts(facts), "b.10<a.0 a.0<a.1 b.10<a.0")
        self.assertEqual(read_facts("b.10<a.0 a.0<a.1 b.10<a.0"), facts)

    def test_they_need_not_fit_any_logs(self):
        self.assertEqual(read_facts("zz.999999999<abcdefgh.60"), [(("zz", 999999999), ("abcdefgh", 60))])
        self.assertEqual(read_facts(write_facts([LONG_FACT])), [LONG_FACT])
        text = " ".join(f"{name}.0<{name}.1" for name in "abcdefgh")
        self.assertEqual(len(read_facts(text)), 8)

    def test_equal_places(self):
        self.refuses(read_facts, "a.0<a.0", 0)
        self.refuses(read_facts, "a.0<a.1 b.3<b.3", 1)
        self.assertEqual(read_facts("a.0<a.1 a.0<b.0"), [(("a", 0), ("a", 1)), (("a", 0), ("b", 0))])

    def test_words(self):
        for word in ("", "-", "--", "a", "a.0", "a.0<", "<a.0", "<", ".<.", "a.0<b", "a.0<b.", "a.0<.1", "a<b", "a.<b.1",
                     ".0<b.1", "a.0<b.1<c.2", "a.0<b.1.", "a.0.1<b.1", "a.0<b.1,", "a.00<b.1", "a.0<b.01", "a.-1<b.1",
                     "a.+1<b.1", "a.0>b.1", "A.0<b.1", "a.0<B.1", "abcdefghi.0<b.1", "a.0<abcdefghi.1", "a0<b1",
                     "0.a<1.b", "a.1234567890<b.1", "a.0<b.1234567890", "a.x<b.y", "a.0\n<b.1", "a.0<b.1\n",
                     "a.0<b.1\nb.0<a.1", "a.0=b.1", "(a.0<b.1)"):
            if word != "-":
                self.refuses(read_facts, word, 0)
            self.refuses(read_facts, f"a.0<b.1 {word}", 1)
            self.refuses(read_facts, f"a.0<b.1 b.0<a.1 {word} a.0<b.1", 2)

    def test_the_sign_for_none_stands_alone(self):
        for text, at in (("- a.0<b.1", 1), ("- -", 1), ("- ", 1), ("-  ", 1), ("- x", 1), ("a.0<b.1 -", 1), (" -", 0),
                         ("-\n", 0), ("--", 0), ("-a.0<b.1", 0)):
            self.refuses(read_facts, text, at)

    def test_blanks(self):
        for text, at in (("", 0), (" ", 0), ("  ", 0), ("a.0<b.1 ", 1), (" a.0<b.1", 0), ("a.0<b.1  a.0<b.1", 1),
                         ("a.0 <b.1", 0), ("a.0< b.1", 0), ("a. 0<b.1", 0), ("\n", 0), ("a.0<b.1 \n", 1),
                         ("a.0<b.1\n", 0), ("\na.0<b.1", 0)):
            self.refuses(read_facts, text, at)

    def test_numbers(self):
        self.assertEqual(read_facts("a.0<b.123456789"), [(("a", 0), ("b", 123456789))])
        self.refuses(read_facts, "a.0<b.0123456789", 0)
        self.refuses(read_facts, "a.0<b.012345678", 0)
        self.refuses(read_facts, "a.0<b.1000000000", 0)

    def test_number_of_facts(self):
        for many in (1, 2, 199, 200):
            self.assertEqual(read_facts(" ".join(["a.0<b.1"] * many)), [(("a", 0), ("b", 1))] * many)
        for last in (["a.0<b.1"], ["a.0<b.1"] * 100, ["x"], ["-"], [""]):
            self.refuses(read_facts, " ".join(["a.0<b.1"] * 200 + last), 200)
        self.refuses(read_facts, " ".join(["a.0<b.1"] * 198 + ["x"] + ["a.0<b.1"] * 5), 198)

    def test_long_texts(self):
        text = write_facts([LONG_FACT] * 200)
        self.assertGreater(len(text), 4000)
        self.assertEqual(read_facts(text), [LONG_FACT] * 200)

    def test_all_short_strings(self):
        for length in range(6):
            for letters in itertools.product("a.<01- ", repeat=length):
                text = "".join(letters)
                self.agrees(read_facts, write_facts, text, fault_in_facts(text))
        for words in itertools.product(["a.0<b.1", "a.0<a.0", "a.1<a.0", "-", "", "a.01<b.0", "a.0"], repeat=3):
            text = " ".join(words)
            self.agrees(read_facts, write_facts, text, fault_in_facts(text))

    def test_chance_facts(self):
        chance = random.Random(33)
        faults = []
        for _ in range(300):
            logs, _ = chance_logs(chance, list("abcdef")[:chance.randrange(1, 7)], chance.randrange(2, 60), NAMES)
            facts = [tuple(chance.sample(all_places(logs), 2)) for _ in range(chance.randrange(12))]
            text = write_facts(facts)
            self.assertEqual(read_facts(text), facts)
            for _ in range(10):
                other = changed(chance, text)
                faults.append(fault_in_facts(other))
                self.agrees(read_facts, write_facts, other, faults[-1])
        for fault in (None, 0, 1, 2, 3, 4):
            self.assertGreater(faults.count(fault), 50, fault)


class Runs(Case):
    def test_empty(self):
        self.assertEqual([write_run([]), read_run("-")], ["-", []])

    def test_workers(self):
        for run in (["a"], ["abcdefgh"], ["b", "a", "b"], list("zyxwvutsrq")):
            self.assertEqual(write_run(run), " ".join(run))
            self.assertEqual(read_run(" ".join(run)), run)
        for word in ("", "-", "A", "aB", "a1", "0", "abcdefghi", "a.0", "a:", "+a", "a\n", "a\nb", "a,", "?"):
            self.refuses(read_run, f"a {word}", 1)
            self.refuses(read_run, f"a b {word} a", 2)
            self.refuses(read_run, f"{word} a", 1 if word == "-" else 0)

    def test_blanks(self):
        for text, at in (("", 0), (" ", 0), ("a ", 1), (" a", 0), ("a  b", 1), ("\n", 0), ("a\n", 0), ("a \nb", 1),
                         ("- ", 1), ("- -", 1), (" -", 0), ("--", 0), ("-a", 0), ("a -", 1), ("-\n", 0)):
            self.refuses(read_run, text, at)

    def test_number_of_workers(self):
        for many in (1, 2, 61, 359, 360):
            self.assertEqual(read_run(" ".join(["a"] * many)), ["a"] * many)
        for last in (["a"], ["a"] * 50, ["X"], ["-"], [""]):
            self.refuses(read_run, " ".join(["a"] * 360 + last), 360)
        self.refuses(read_run, " ".join(["a"] * 358 + ["X"] + ["a"] * 5), 358)
        long = ["abcdefgh"] * 360
        self.assertEqual(read_run(write_run(long)), long)

    def test_all_short_strings(self):
        for length in range(6):
            for letters in itertools.product("ab- \nA", repeat=length):
                text = "".join(letters)
                self.agrees(read_run, write_run, text, fault_in_run(text))

    def test_chance_runs(self):
        chance = random.Random(34)
        for _ in range(200):
            _, order = chance_logs(chance, list("abcdef")[:chance.randrange(1, 7)], chance.randrange(60), NAMES)
            run = workers_of(order)
            self.assertEqual(read_run(write_run(run)), run)
            for _ in range(10):
                other = changed(chance, write_run(run))
                self.agrees(read_run, write_run, other, fault_in_run(other))
        run = workers_of(great_logs(35)[1])
        self.assertEqual(read_run(write_run(run)), run)


class Results(Case):
    def test_arguments_stay_as_they_were(self):
        logs = {"b": example()["b"], "a": example()["a"]}
        facts = [(("b", 0), ("a", 0))]
        run = list("aabaaba")
        before = copy.deepcopy((logs, facts, run))
        for _ in range(2):
            self.assertEqual([write_logs(logs), write_facts(facts), write_run(run)],
                             ["a: +x +y -y +z =0\nb: <a.x <a.z", "b.0<a.0", "a a b a a b a"])
        self.assertEqual((logs, facts, run), before)
        self.assertEqual(list(logs), ["b", "a"])

    def test_arguments_that_are_changed_in_place_are_read_anew(self):
        logs, facts, run = {"a": []}, [], []
        self.assertEqual([write_logs(logs), write_facts(facts), write_run(run)], ["a:", "-", "-"])
        logs["a"].append(("size", 0))
        facts.append((("a", 0), ("b", 0)))
        run.append("a")
        self.assertEqual([write_logs(logs), write_facts(facts), write_run(run)], ["a: =0", "a.0<b.0", "a"])

    def test_results_are_new(self):
        found = [read_logs("a:\nb:"), read_logs("a:\nb:")]
        found += [log for logs in found for log in logs.values()]
        found += [read_facts("-"), read_facts("-"), read_run("-"), read_run("-"), read_run("a"), read_run("a")]
        self.assertEqual(len({id(thing) for thing in found}), 12)
        found[0]["a"].append(("size", 0))
        found[6].append(None)
        found[8].append("a")
        self.assertEqual([read_logs("a:\nb:"), read_facts("-"), read_run("-")], [{"a": [], "b": []}, [], []])


if __name__ == "__main__":
    unittest.main()
