"""Slow answers, made from the words of the document alone, and inputs for the tests."""

import random


def example():
    """The logs L of the document."""
    return {
        "a": [("push", "x"), ("push", "y"), ("pop", "y"), ("push", "z"), ("size", 0)],
        "b": [("steal", "a", "x"), ("steal", "a", "z")],
    }


def all_places(logs):
    return [(worker, index) for worker in sorted(logs) for index in range(len(logs[worker]))]


def all_runs(logs, facts):
    """All runs, as lists of places, by replaying every order on deques."""
    found = []
    total = sum(len(log) for log in logs.values())

    def go_on(order, deques):
        if len(order) == total:
            if all(order.index(place) < order.index(other) for place, other in facts):
                found.append(order)
            return
        for worker in sorted(logs):
            index = sum(1 for place in order if place[0] == worker)
            if index < len(logs[worker]):
                after = replayed(deques, worker, logs[worker][index])
                if after is not None:
                    go_on(order + [(worker, index)], after)

    go_on([], {worker: [] for worker in logs})
    return found


def replayed(deques, worker, entry):
    """The deques after an entry, or None if it does not fit."""
    after = {name: list(items) for name, items in deques.items()}
    if entry[0] == "push":
        after[worker].append(entry[1])
        return after
    if entry[0] == "size":
        return after if len(after[worker]) == entry[1] else None
    if entry[0] == "pop":
        return after if after[worker] and after[worker].pop() == entry[1] else None
    victim = after[entry[1]]
    return after if victim and victim.pop(0) == entry[2] else None


def all_orders(places, pairs):
    """All orders of places that respect all pairs."""
    if not places:
        return [[]]
    orders = []
    for place in places:
        rest = [other for other in places if other != place]
        if not any(later == place and early in rest for early, later in pairs):
            orders += [[place] + order for order in all_orders(rest, pairs)]
    return orders


def opened(logs, worker, index):
    """The open items at an entry."""
    before = logs[worker][:index]
    return [entry[1] for entry in before if entry[0] == "push" and ("pop", entry[1]) not in before]


def steal_of(logs, item):
    """The place of the steal of an item, or None."""
    for worker, index in all_places(logs):
        if logs[worker][index][0] == "steal" and logs[worker][index][2] == item:
            return (worker, index)
    return None


def pairs_of(logs):
    """The precedences E1 to E4."""
    pairs = set()
    for worker in logs:
        thefts = []
        for index, entry in enumerate(logs[worker]):
            if index > 0:
                pairs.add(((worker, index - 1), (worker, index)))
            if entry[0] == "push" and steal_of(logs, entry[1]):
                pairs.add(((worker, index), steal_of(logs, entry[1])))
                thefts.append(steal_of(logs, entry[1]))
            if entry[0] == "size":
                items = opened(logs, worker, index)
                for at, item in enumerate(items):
                    theft = steal_of(logs, item)
                    if theft and at == len(items) - entry[1] - 1:
                        pairs.add((theft, (worker, index)))
                    if theft and at == len(items) - entry[1]:
                        pairs.add(((worker, index), theft))
        pairs.update(zip(thefts, thefts[1:]))
    return pairs


def certificates(logs):
    """All true certificates but cycles, those of one entry with the preferred one first."""
    found = []
    for worker, index in all_places(logs):
        entry = logs[worker][index]
        items = opened(logs, worker, index)
        if entry[0] == "pop":
            newer = [item for item in reversed(items) if items.index(item) > items.index(entry[1])]
            found += [("newer", worker, index, item) for item in newer]
        if entry[0] == "push" and steal_of(logs, entry[1]):
            found += [("kept", worker, index, item) for item in items if not steal_of(logs, item)]
        if entry[0] == "size" and entry[1] > len(items):
            found.append(("few", worker, index))
        if entry[0] == "size":
            for at, item in enumerate(items):
                if at < len(items) - entry[1] and not steal_of(logs, item):
                    found.append(("present", worker, index, item))
    return found


def goes_before(logs, facts, place, other):
    """Whether a place comes before another one as in a cycle."""
    if place[0] == other[0] and place[1] < other[1]:
        return True
    return (place, other) in pairs_of(logs) or (place, other) in facts


def is_true_cycle(logs, facts, places):
    following = places[1:] + places[:1]
    return len(set(places)) == len(places) >= 2 and all(
        goes_before(logs, facts, place, other) for place, other in zip(places, following))


def fits_definition(logs):
    """Whether a dict of lists of well-formed entries is logs."""
    entries = [(worker, index, logs[worker][index]) for worker, index in all_places(logs)]
    for worker, index, entry in entries:
        same = [other for other in entries if other[2][0] in ("pop", "steal") and other[2][-1] == entry[-1]]
        pushed = [other for other in entries if other[2] == ("push", entry[-1])]
        if entry[0] != "size" and (len(pushed) != 1 or len(same) > 1):
            return False
        if entry[0] == "pop" and (pushed[0][0] != worker or pushed[0][1] >= index):
            return False
        if entry[0] == "steal" and (pushed[0][0] != entry[1] or entry[1] == worker):
            return False
    return True


def words_of(worker, other):
    """The entries that small logs are made of."""
    own = [(word, item) for word in ("push", "pop") for item in ("x", "y")]
    return own + [("size", n) for n in (0, 1, 2)] + [("steal", other, item) for item in ("x", "y")]


def candidate_logs(most):
    """All dicts of two workers with up to a number of entries, logs or not."""
    lists = {"a": [[]], "b": [[]]}
    for worker, other in (("a", "b"), ("b", "a")):
        for log in lists[worker]:
            if len(log) < most:
                lists[worker] += [log + [entry] for entry in words_of(worker, other)]
    return [{"a": list(log), "b": list(second)}
            for log in lists["a"] for second in lists["b"] if len(log) + len(second) <= most]


def small_logs(most):
    """All logs of two workers with up to a number of entries."""
    return [logs for logs in candidate_logs(most) if fits_definition(logs)]


def small_cases():
    """Small logs without facts, and smaller ones with each single fact."""
    cases = [(logs, []) for logs in small_logs(4)]
    for logs in small_logs(3):
        places = all_places(logs)
        cases += [(logs, [(one, other)]) for one in places for other in places if one != other]
    return cases


def chance_logs(chance, workers, many, names="abcxyz"):
    """Logs that a chance run wrote, with up to sixty entries each, and this run as a list of places."""
    logs = {worker: [] for worker in workers}
    deques = {worker: [] for worker in workers}
    order = []
    names = list(names)
    for _ in range(many):
        worker = chance.choice([worker for worker in workers if len(logs[worker]) < 60])
        entry = chance_entry(chance, worker, deques, names)
        order.append((worker, len(logs[worker])))
        logs[worker].append(entry)
        deques = replayed(deques, worker, entry)
    return logs, order


def chance_entry(chance, worker, deques, names):
    choices = [("size", len(deques[worker]))]
    if names:
        choices += [("push", names[0])] * 3
    if deques[worker]:
        choices += [("pop", deques[worker][-1])] * 2
    choices += [("steal", victim, deques[victim][0]) for victim in deques if victim != worker and deques[victim]] * 2
    entry = chance.choice(choices)
    if entry[0] == "push":
        names.pop(0)
    return entry


def spoiled(chance, logs):
    """Other logs that differ from logs by one chance change."""
    while True:
        other = {worker: list(log) for worker, log in logs.items()}
        log = other[chance.choice([worker for worker in other if other[worker]])]
        index = chance.randrange(len(log))
        second = chance.randrange(len(log))
        kind = chance.randrange(4)
        if kind == 0:
            log.insert(second, log.pop(index))
        elif kind == 1:
            log[index], log[second] = log[second], log[index]
        elif log[index][0] == "size":
            log[index] = ("size", chance.randrange(4))
        else:
            log.insert(index, ("size", chance.randrange(4)))
        if other != logs and fits_definition(other):
            return other


def chance_cases(seed, many, longest=7):
    """Pairs of logs and facts, many of them consistent and many not."""
    chance = random.Random(seed)
    cases = []
    for _ in range(many):
        logs, order = chance_logs(chance, ["a", "b", "c"][:chance.choice([2, 3])], chance.randrange(2, longest + 1))
        facts = []
        for _ in range(chance.choice([0, 0, 1, 2])):
            first, second = sorted(chance.sample(range(len(order)), 2))
            facts.append((order[first], order[second]) if chance.random() < 0.8 else (order[second], order[first]))
        if chance.random() < 0.4:
            logs = spoiled(chance, logs)
            facts = [(one, other) for one, other in facts
                     if one in all_places(logs) and other in all_places(logs)]
        cases.append((logs, facts))
    return cases


def great_logs(seed):
    """Logs of six workers with sixty entries each that a chance run wrote, and this run as a list of places."""
    names = [first + second for first in "abcdefghijklm" for second in "abcdefghijklm"]
    return chance_logs(random.Random(seed), list("abcdef"), 360, names)


def workers_of(order):
    """The run of an order of places."""
    return [worker for worker, index in order]


def deques_of(logs, order):
    """The deques after 0, 1, ... entries of an order of places that is a run."""
    found = [{worker: [] for worker in sorted(logs)}]
    for worker, index in order:
        found.append(replayed(found[-1], worker, logs[worker][index]))
    return found


def places_of(run):
    """The places of a run."""
    return [(worker, run[:time].count(worker)) for time, worker in enumerate(run)]


def is_true_run(logs, facts, run):
    """Whether a list of workers is a run, by replaying."""
    order = places_of(run)
    if sorted(order) != all_places(logs):
        return False
    deques = {worker: [] for worker in logs}
    for worker, index in order:
        deques = replayed(deques, worker, logs[worker][index])
        if deques is None:
            return False
    return all(order.index(place) < order.index(other) for place, other in facts)
