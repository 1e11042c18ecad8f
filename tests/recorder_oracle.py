"""A slow recorder, made from the words of the document alone, and chance calls for it."""

import re

from dequelogs.errors import NoEntry, NoItem, NoNumber, NoPlace, NoWorker, Nothing
from oracle import all_places, fits_definition

# The calls that add something.
ADDING = ("push", "pop", "size", "steal", "fact")


def is_name(thing):
    return isinstance(thing, str) and re.fullmatch("[a-z]{1,8}", thing) is not None


class SlowRecorder:
    """Notes at which time each call and each mark was made, and judges by these times."""

    def __init__(self, workers):
        self.workers = list(workers)
        self.time = 0
        self.calls = []
        self.marks = []

    def recorded(self):
        """The logs and the facts."""
        logs = {worker: [] for worker in self.workers}
        facts = []
        for _, call in self.calls:
            if call[0] == "fact":
                facts.append(call[1:])
            else:
                logs[call[1]].append((call[0], *call[2:]))
        return logs, facts

    def error(self, word, *values):
        """The class of the error that a call raises, or None."""
        logs, facts = self.recorded()
        if word == "undo":
            return None if self.calls else Nothing
        if word == "undo_to":
            return None if values[0] in range(len(self.marks)) else NoNumber
        if word == "fact":
            one, other = values
            if one not in all_places(logs) or other not in all_places(logs) or one == other:
                return NoPlace
            return None if len(facts) < 200 else NoEntry
        if word in ADDING:
            return self.entry_error(logs, word, *values)
        return None

    def entry_error(self, logs, word, *values):
        workers = values[:2] if word == "steal" else values[:1]
        if any(worker not in self.workers for worker in workers):
            return NoWorker
        if word != "size" and not is_name(values[-1]):
            return NoItem
        if word == "size" and not 0 <= values[1] <= 60 or len(logs[values[0]]) == 60:
            return NoEntry
        logs[values[0]].append((word, *values[1:]))
        return None if fits_definition(logs) else NoEntry

    def done(self, word, *values):
        """What a call that raises no error returns."""
        self.time += 1
        if word in ADDING:
            self.calls.append((self.time, (word, *values)))
        elif word == "undo":
            time, _ = self.calls.pop()
            self.marks = [mark for mark in self.marks if mark[0] < time]
        elif word == "mark":
            self.marks.append((self.time, list(self.calls)))
            return len(self.marks) - 1
        elif word == "undo_to":
            self.calls = list(self.marks[values[0]][1])
            del self.marks[values[0] + 1:]
        return None

    def twin(self):
        other = SlowRecorder(self.workers)
        other.time, other.calls, other.marks = self.time, list(self.calls), list(self.marks)
        return other


def chance_call(chance, recorder, names):
    """A chance call for a slow recorder: a word and its arguments, often such that the call holds."""
    logs, facts = recorder.recorded()
    word = chance.choice(["push"] * 5 + ["pop", "steal", "size"] * 3 + ["fact"] * 3 + ["undo", "mark", "undo_to"])
    worker = chance.choice(recorder.workers)
    pushed = [entry[1] for log in logs.values() for entry in log if entry[0] == "push"]
    items = [entry[1] for entry in logs[worker] if entry[0] == "push"] or ["none"]
    if chance.random() < 0.08:
        return word, *strange_values(chance, word)
    if word == "push":
        fresh = [name for name in names if name not in pushed]
        return word, worker, chance.choice(fresh or names)
    if word == "pop":
        return word, worker, chance.choice(items[-3:] if chance.random() < 0.8 else items)
    if word == "steal":
        return word, chance.choice(recorder.workers), worker, chance.choice(items)
    if word == "size":
        return word, worker, chance.randrange(5)
    if word == "fact":
        places = all_places(logs)
        if len(places) < 2:
            return word, ("a", 0), ("a", 1)
        one, other = chance.sample(places, 2)
        return word, min(one, other), max(one, other)
    if word == "undo_to":
        return word, chance.randrange(max(1, len(recorder.marks)))
    return (word,)


def strange_values(chance, word):
    """Chance arguments of which at least one is wrong most of the time."""
    workers = ["a", "b", "f", "q", "", "A", "abcdefghi"]
    items = ["aa", "ab", "", "X", "a b", "abcdefghi", "abcdefgh", "a1"]
    places = [("a", 0), ("a", 1), ("b", 0), ("a", -1), ("q", 0), ("a", 60), ("a", "0"), None, [], ("a",), "a0"]
    if word in ("push", "pop"):
        return [chance.choice(workers), chance.choice(items)]
    if word == "steal":
        return [chance.choice(workers), chance.choice(workers), chance.choice(items)]
    if word == "size":
        return [chance.choice(workers), chance.choice([0, 1, 60, 61, -1, 10 ** 59, -10 ** 59])]
    if word == "fact":
        return [chance.choice(places), chance.choice(places)]
    if word == "undo_to":
        return [chance.choice([-1, 0, 1, 5, 10 ** 59])]
    return []
