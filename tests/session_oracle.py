"""Slow sessions, made from the words of the document alone, and chance lines for the tests."""

import re

from dequelogs.errors import Conflict, NoItem, NoPlace
from dequelogs.graph import must_precede, reason
from dequelogs.lost import lost_count
from dequelogs.runs import least_run
from dequelogs.sizes import can_meet
from dequelogs.texts import write_logs, write_run
from recorder_oracle import ADDING, SlowRecorder, chance_call, is_name

WORD = "[^ ]+"
NUMBER = "(?:0|[1-9][0-9]{0,8})"
PLACES = f"({WORD}) ({NUMBER}) ({WORD}) ({NUMBER})"

FORMS = [f"(push|pop) ({WORD}) ({WORD})", f"(size) ({WORD}) ({NUMBER})", f"(steal) ({WORD}) ({WORD}) ({WORD})",
         f"(fact|before) {PLACES}", "(undo|logs|status|least|lost)", f"(meet) ({WORD}) ({WORD})"]


class SlowSession:
    def __init__(self):
        self.recorder = None

    def answer(self, line):
        """The answer to one line."""
        if re.fullmatch(f"workers(?: {WORD})+", line):
            names = line.split(" ")[1:]
            if not all(map(is_name, names)) or names != sorted(set(names)) or len(names) > 6:
                return "NoWorker"
            self.recorder = SlowRecorder(names)
            return "ok"
        found = [re.fullmatch(form, line) for form in FORMS]
        if self.recorder is None or not any(found):
            return "?"
        word, *values = [match for match in found if match][0].groups()
        if word in ("fact", "before"):
            values = [(values[0], int(values[1])), (values[2], int(values[3]))]
        if word == "size":
            values[1] = int(values[1])
        if word in (*ADDING, "undo"):
            return self.call(word, *values)
        try:
            return self.told(word, *values)
        except (Conflict, NoItem, NoPlace) as error:
            return type(error).__name__

    def call(self, word, *values):
        error = self.recorder.error(word, *values)
        if error is not None:
            return error.__name__
        self.recorder.done(word, *values)
        return "ok"

    def told(self, word, *values):
        logs, facts = self.recorder.recorded()
        if word == "logs":
            return write_logs(logs).replace("\n", "; ")
        if word == "status":
            found = reason(logs, facts)
            return "consistent" if found is None else found[0]
        if word == "least":
            return write_run(least_run(logs, facts))
        if word == "lost":
            return str(lost_count(logs))
        judge = must_precede if word == "before" else can_meet
        return {True: "yes", False: "no"}[judge(logs, facts, *values)]


def line_of(word, *values):
    """The line of a call or a question."""
    words = [word]
    for value in values:
        words += [str(part) for part in value] if isinstance(value, (tuple, list)) else [str(value)]
    return " ".join(words)


def chance_line(chance, slow, names):
    """A chance line for a slow session, good most of the time."""
    if slow.recorder is None or chance.random() < 0.01:
        return chance.choice(["workers a b", "workers a b c", "workers a b c d e f", "workers b a", "workers",
                              "workers a  b", "workers A", "workers a b c d e f g", "workers aa b", "logs", "undo"])
    if chance.random() < 0.07:
        return chance.choice(["", " ", "push a", "push  a x", "logs ", " logs", "size a 01", "size a -1", "size a 61",
                              "size a 1234567890", "Push a x", "steal a  x", "fact a 0 b", "fact a 0 b 00", "undo 1",
                              "before a 0 a 60", "meet x", "meet x y z", "lost x", "mark", "twin", "facts", "?"])
    logs, facts = slow.recorder.recorded()
    # Without undo, almost all logs would contradict soon.
    if chance.random() < 0.6 and reason(logs, facts) is not None:
        return "undo"
    if chance.random() < 0.3:
        return question_line(chance, logs)
    word, *values = chance_call(chance, slow.recorder, names)
    if word in ("mark", "undo_to") or any(value is None or value == "" for value in values):
        return "status"
    return line_of(word, *values)


def question_line(chance, logs):
    word = chance.choice(["logs", "status", "status", "least", "before", "before", "meet", "meet", "lost"])
    places = [(worker, index) for worker in logs for index in range(len(logs[worker]))] or [("a", 0)]
    items = [entry[1] for log in logs.values() for entry in log if entry[0] == "push"] or ["x"]
    if word == "before":
        return line_of(word, chance.choice(places), chance.choice(places))
    if word == "meet":
        return line_of(word, chance.choice(items), chance.choice(items))
    return word
