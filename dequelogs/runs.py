"""Runs: whether an object is one, which ones there are, and where their entries stand."""

from math import gcd

from dequelogs.checks import check_facts, check_place, is_integer, is_worker
from dequelogs.errors import NoNumber, NoRun, TooMany
from dequelogs.graph import (check_consistent, check_question, first_certificate, least_order, places_behind, steps,
                             turned)
from dequelogs.logs import check_logs

MOST_CELLS = 20000


def is_run(logs, facts, thing):
    """Return whether any object is a run."""
    check_logs(logs)
    check_facts(logs, facts)
    return fits(logs, facts, thing)


def replay(logs, run):
    """Return the deques after 0, 1, ... entries of a run, left to right."""
    check_logs(logs)
    check_run(logs, [], run)
    return deques_of(logs, run)


def least_run(logs, facts):
    """Return the least run."""
    check_question(logs, facts, [])
    return workers_of(least_order(steps(logs, facts)))


def run_count(logs, facts):
    """Return the number of runs."""
    check_countable(logs, facts)
    return count_runs(logs, facts)


def nth_run(logs, facts, number):
    """Return the run with a number, in ascending order."""
    check_countable(logs, facts)
    moves = run_moves(logs, facts)
    ways = ways_on(logs, moves)
    state = first_state(logs)
    if not is_integer(number) or not 0 <= number < ways[state]:
        raise NoNumber("there is no run with this number")
    run = []
    rest = number
    while moves[state]:
        onward = moves[state]
        worker = [other for other in onward if ways_before(onward, ways, other) <= rest][-1]
        run.append(worker)
        rest -= ways_before(onward, ways, worker)
        state = onward[worker]
    return run


def run_number(logs, facts, run):
    """Return the number of a run, in ascending order."""
    check_countable(logs, facts)
    check_run(logs, facts, run)
    moves = run_moves(logs, facts)
    ways = ways_on(logs, moves)
    state = first_state(logs)
    number = 0
    for worker in run:
        number += ways_before(moves[state], ways, worker)
        state = moves[state][worker]
    return number


def share_before(logs, facts, one, other):
    """Return the fraction of the runs in which the entry at one comes before the entry at other."""
    check_countable(logs, facts)
    check_place(logs, one)
    check_place(logs, other)
    check_consistent(logs, facts)
    if one == other:
        return (0, 1)
    top = count_runs(logs, facts + [(one, other)])
    bottom = count_runs(logs, facts)
    shared = gcd(top, bottom)
    return (top // shared, bottom // shared)


def positions(logs, facts, place):
    """Return the least and the greatest position that an entry has in runs."""
    check_question(logs, facts, [place])
    after = steps(logs, facts)
    early, late = sides(after, place)
    return (len(early), len(after) - 1 - len(late))


def run_with(logs, facts, place, position):
    """Return a run in which an entry has a position, or None."""
    check_question(logs, facts, [place])
    after = steps(logs, facts)
    early, late = sides(after, place)
    others = [other for other in least_order(after) if other != place]
    free = [other for other in others if other not in early and other not in late]
    more = position - len(early)
    if not 0 <= more <= len(free):
        return None
    # The free places are in an order of the steps, so none of the first ones waits for a later one.
    done = {other: True for other in list(early) + free[:more]}
    first = [other for other in others if other in done]
    last = [other for other in others if other not in done]
    return workers_of(first + [place] + last)


def sides(after, place):
    """Return what must come before a place and what must come after it, each as the keys of a dict."""
    return (places_behind(turned(after), [place]), places_behind(after, [place]))


def check_run(logs, facts, run):
    """Raise NoRun for any object that is no run."""
    if not fits(logs, facts, run):
        raise NoRun("this is no run of the logs and facts")


def check_countable(logs, facts):
    """Raise the error that is due for logs and facts whose runs are to be counted."""
    check_logs(logs)
    check_facts(logs, facts)
    many = 1
    for log in logs.values():
        many *= len(log) + 1
    if many > MOST_CELLS:
        raise TooMany(many)


def fits(logs, facts, thing):
    """Return whether any object is a run of logs and facts that were checked."""
    if not isinstance(thing, list) or not all([is_worker(logs, worker) for worker in thing]):
        return False
    if not all([thing.count(worker) == len(logs[worker]) for worker in logs]):
        return False
    if len(deques_of(logs, thing)) <= len(thing):
        return False
    times = {place: time for time, place in enumerate(places_of(thing))}
    return all([times[place] < times[other] for place, other in facts])


def places_of(run):
    """Return the places of the entries of a run, in its order."""
    done = {worker: 0 for worker in run}
    places = []
    for worker in run:
        places.append((worker, done[worker]))
        done[worker] += 1
    return places


def workers_of(places):
    """Return the workers of places, in their order."""
    return [worker for worker, index in places]


def deques_of(logs, run):
    """Return the deques after 0, 1, ... entries, up to the first entry that does not fit."""
    deques = [{worker: [] for worker in sorted(logs)}]
    for worker, index in places_of(run):
        later = deques_after(deques[-1], worker, logs[worker][index])
        if later is None:
            return deques
        deques.append(later)
    return deques


def deques_after(deques, worker, entry):
    """Return the deques after an entry, or None if it does not fit."""
    later = {name: list(items) for name, items in deques.items()}
    own = later[worker]
    if entry[0] == "push":
        own.append(entry[1])
        return later
    if entry[0] == "size":
        return later if len(own) == entry[1] else None
    if entry[0] == "pop":
        later[worker] = own[:-1]
        return later if own[-1:] == [entry[1]] else None
    other = later[entry[1]]
    later[entry[1]] = other[1:]
    return later if other[:1] == [entry[2]] else None


def count_runs(logs, facts):
    """Return the number of runs of logs and facts that were checked."""
    return ways_on(logs, run_moves(logs, facts))[first_state(logs)]


def first_state(logs):
    """Return the state at the beginning: a state tells how many entries of each worker are done, by worker."""
    return (0,) * len(logs)


def run_moves(logs, facts):
    """Return for each state that runs may come to, earlier ones first, the states after the next entry of a worker."""
    start = first_state(logs)
    if first_certificate(logs, facts) is not None:
        return {start: {}}
    needs = needed_counts(logs, facts)
    moves = {}
    seen = {start: True}
    states = [start]
    while len(moves) < len(states):
        state = states[len(moves)]
        onward = ready_moves(logs, needs, state)
        moves[state] = onward
        for worker in onward:
            later = onward[worker]
            if later not in seen:
                seen[later] = True
                states.append(later)
    return moves


def needed_counts(logs, facts):
    """Return for each place how many entries of each worker are done before it at least, by worker."""
    workers = sorted(logs)
    before = turned(steps(logs, facts))
    needs = {}
    for place in before:
        early = before[place]
        needs[place] = tuple([max([index + 1 for name, index in early if name == worker], default=0)
                              for worker in workers])
    return needs


def ready_moves(logs, needs, state):
    """Return for each worker whose next entry may come in a state the state after it, by worker."""
    found = {}
    for at, worker in enumerate(sorted(logs)):
        place = (worker, state[at])
        if place in needs and all([done >= need for done, need in zip(state, needs[place])]):
            found[worker] = state[:at] + (state[at] + 1,) + state[at + 1:]
    return found


def ways_on(logs, moves):
    """Return for each state the number of ways to go on from it to the end of the logs."""
    end = tuple([len(logs[worker]) for worker in sorted(logs)])
    ways = {}
    for state in reversed(list(moves)):
        onward = moves[state]
        ways[state] = 1 if state == end else sum([ways[onward[worker]] for worker in onward])
    return ways


def ways_before(onward, ways, worker):
    """Return the number of ways to go on by the entry of a lesser worker."""
    return sum([ways[onward[other]] for other in onward if other < worker])
