"""Slow answers about removed entries, made from the words of the document alone."""

import graphlib

from oracle import all_places, all_runs, certificates, pairs_of, steal_of


def slow_without(logs, facts, place):
    """The logs and facts without an entry."""
    entry = logs[place[0]][place[1]]
    gone = [place]
    if entry[0] == "push":
        gone += [(worker, index) for worker, index in all_places(logs)
                 if logs[worker][index] == ("pop", entry[1]) or (worker, index) == steal_of(logs, entry[1])]

    def moved(other):
        return (other[0], other[1] - sum(1 for worker, index in gone if worker == other[0] and index < other[1]))

    kept = {worker: [] for worker in sorted(logs)}
    for worker, index in all_places(logs):
        if (worker, index) not in gone:
            kept[worker].append(logs[worker][index])
    return kept, [(moved(one), moved(other)) for one, other in facts if one not in gone and other not in gone]


def has_run(logs, facts):
    """Whether there is a run, by trying all orders on deques."""
    return bool(all_runs(logs, facts))


def has_no_conflict(logs, facts):
    """Whether there is a run, by R3: for logs that have too many orders to try."""
    if certificates(logs):
        return False
    before = {place: set() for place in all_places(logs)}
    for early, later in [*pairs_of(logs), *facts]:
        before[later].add(early)
    try:
        list(graphlib.TopologicalSorter(before).static_order())
    except graphlib.CycleError:
        return False
    return True


def slow_repairs(logs, facts, judge):
    """The places whose removal leaves what judge finds consistent."""
    return [place for place in all_places(logs) if judge(*slow_without(logs, facts, place))]
