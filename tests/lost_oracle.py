"""Slow answers about a lost worker, made from the words of the document alone, and inputs for the tests."""

import random

from oracle import all_places, chance_logs, opened, pairs_of, replayed, spoiled, steal_of


def left_of(logs):
    """The items that are neither popped nor stolen in the logs."""
    entries = [entry for log in logs.values() for entry in log]
    removed = [entry[-1] for entry in entries if entry[0] in ("pop", "steal")]
    return [entry[1] for entry in entries if entry[0] == "push" and entry[1] not in removed]


def lost_sets(logs):
    """All sets of items that the lost worker can have stolen, by trying every order on deques."""
    left = left_of(logs)
    found, seen = set(), set()

    def go_on(counts, deques, stolen):
        key = (tuple(counts.items()), tuple(tuple(items) for items in deques.values()), stolen)
        if key in seen:
            return
        seen.add(key)
        if all(counts[worker] == len(logs[worker]) for worker in logs):
            found.add(stolen)
        for worker in logs:
            if counts[worker] < len(logs[worker]):
                after = replayed(deques, worker, logs[worker][counts[worker]])
                if after is not None:
                    go_on({**counts, worker: counts[worker] + 1}, after, stolen)
            if deques[worker] and deques[worker][0] in left:
                go_on(counts, {**deques, worker: deques[worker][1:]}, stolen | {deques[worker][0]})

    go_on({worker: 0 for worker in logs}, {worker: [] for worker in logs}, frozenset())
    return found


def lost_certificates(logs):
    """All true certificates but cycles, those of one entry with the preferred one first."""
    found = []
    for worker, index in all_places(logs):
        entry = logs[worker][index]
        items = opened(logs, worker, index)
        if entry[0] == "pop":
            found += [("newer", worker, index, item) for item in reversed(items[items.index(entry[1]) + 1:])]
        if entry[0] == "size" and entry[1] > len(items):
            found.append(("few", worker, index))
        if entry[0] == "size" and entry[1] <= len(items):
            found += [("present", worker, index, item) for item in items[:len(items) - entry[1]]
                      if ("pop", item) in logs[worker][index:]]
    return found


def needed_by_words(logs):
    """The items that R1 asks the lost worker to steal, for logs without lost_certificates."""
    stolen = {entry[2] for log in logs.values() for entry in log if entry[0] == "steal"}
    before = None
    while stolen != before:
        before = set(stolen)
        for worker, index in all_places(logs):
            entry = logs[worker][index]
            items = opened(logs, worker, index)
            if entry[0] == "push" and entry[1] in stolen:
                stolen |= set(items)
            if entry[0] == "size":
                stolen |= set(items[:len(items) - entry[1]])
    return {item for item in stolen if steal_of(logs, item) is None}


def lost_pairs(logs, needed):
    """The precedences E1 to E4 with the needed steals added, each as if in a log of its own."""
    owners = {entry[1]: worker for worker in logs for entry in logs[worker] if entry[0] == "push"}
    more = {"?" + item: [("steal", owners[item], item)] for item in needed}
    pairs = pairs_of({**logs, **more})
    return {tuple(("?", place[0][1:]) if place[0] in more else place for place in pair) for pair in pairs}


def is_true_lost_cycle(logs, places):
    """Whether a list of places and steals of the lost worker goes round."""
    pairs = lost_pairs(logs, needed_by_words(logs))

    def goes_before(place, other):
        return (place, other) in pairs or (place[0] == other[0] != "?" and place[1] < other[1])

    following = places[1:] + places[:1]
    return len(set(places)) == len(places) >= 2 and all(
        goes_before(place, other) for place, other in zip(places, following))


def is_true_lost_run(logs, needed, run):
    """Whether a list is a run in which the lost worker steals exactly the needed items."""
    deques = {worker: [] for worker in logs}
    counts = {worker: 0 for worker in logs}
    stolen = []
    for word in run:
        if isinstance(word, tuple):
            owners = [worker for worker in deques if deques[worker][:1] == [word[1]]]
            if word[0] != "?" or len(word) != 2 or not owners:
                return False
            deques[owners[0]].pop(0)
            stolen.append(word[1])
        else:
            deques = replayed(deques, word, logs[word][counts[word]])
            counts[word] += 1
            if deques is None:
                return False
    return sorted(stolen) == sorted(needed) and all(counts[worker] == len(logs[worker]) for worker in logs)


def lost_cases(seed, many, longest=7):
    """Logs of which one thief's log was lost, some of them spoiled after that."""
    chance = random.Random(seed)
    cases = []
    while len(cases) < many:
        logs, order = chance_logs(chance, list("abt"), chance.randrange(3, longest + 3))
        if all(entry[0] == "steal" for entry in logs["t"]):
            del logs["t"]
            if chance.random() < 0.5 and any(logs.values()):
                logs = spoiled(chance, logs)
            cases.append(logs)
    return cases
