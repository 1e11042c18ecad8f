"""What one more worker can have stolen whose log is lost."""

from dequelogs.checks import is_place
from dequelogs.errors import Conflict
from dequelogs.graph import LOST, all_pairs, find_cycle, goes_round, joined, least_order, log_faults
from dequelogs.logs import (all_entries, check_logs, left_items, open_lists, pushed_items, removal_places,
                            steal_places)


def lost_reason(logs):
    """Return None if the logs have a run with some steals of the lost worker, else the first certificate."""
    check_logs(logs)
    return first_lost_certificate(logs)


def shows_lost(logs, thing):
    """Return whether any object is a true certificate that no steals of the lost worker give a run."""
    check_logs(logs)
    if not isinstance(thing, tuple) or len(thing) < 2:
        return False
    faults = lost_faults(logs)
    if thing[0] == "cycle":
        return len(thing) == 2 and not faults and is_lost_cycle(logs, thing[1])
    # A boolean equals an integer, so the place is judged before certificates are compared.
    return is_place(logs, thing[1:3]) and thing in faults


def lost_needed(logs):
    """Return for each worker the items that the lost worker must have stolen from it."""
    check_lost(logs)
    return needed_items(logs)


def lost_possible(logs):
    """Return for each worker the further items that the lost worker may have stolen from it."""
    check_lost(logs)
    return possible_items(logs)


def lost_run(logs):
    """Return a run in which the lost worker steals the needed items."""
    check_lost(logs)
    return [place if place[0] == LOST else place[0] for place in least_order(lost_steps(logs))]


def lost_count(logs):
    """Return the number of sets of items that the lost worker can have stolen."""
    check_logs(logs)
    if first_lost_certificate(logs) is not None:
        return 0
    many = 1
    for items in possible_items(logs).values():
        many *= len(items) + 1
    return many


def check_lost(logs):
    """Raise NoLogs for no logs, and Conflict for logs that have no run with steals of the lost worker."""
    check_logs(logs)
    found = first_lost_certificate(logs)
    if found is not None:
        raise Conflict(found)


def first_lost_certificate(logs):
    """Return the certificate that lost_reason promises, for logs that were checked."""
    faults = lost_faults(logs)
    if faults:
        return faults[0]
    places = find_cycle(lost_steps(logs))
    if places:
        return ("cycle", places)
    return None


def lost_faults(logs):
    """Return the true certificates that name an entry, by worker, then by index."""
    popped = {entry[1]: True for place, entry in all_entries(logs) if entry[0] == "pop"}
    faults = []
    for worker in sorted(logs):
        # The lost worker may have stolen each item that nobody pops.
        stolen = {item: True for item in pushed_items(logs[worker]) if item not in popped}
        faults += log_faults(worker, logs[worker], stolen)
    # An item that is kept, but popped later, is named by the pop.
    return [fault for fault in faults if fault[0] != "kept"]


def needed_items(logs):
    """Return the items that R1 asks the lost worker to steal, if there is no certificate that names an entry."""
    steals = steal_places(logs)
    removed = removal_places(logs)
    needed = {}
    for worker in sorted(logs):
        asked = asked_items(logs[worker], steals)
        needed[worker] = [item for item in pushed_items(logs[worker]) if item in asked and item not in removed]
    return needed


def asked_items(log, steals):
    """Return the items that are stolen if the stolen items and the sizes of a log are true, as the keys of a dict."""
    asked = {}
    for entry, held in zip(log, open_lists(log)):
        gone = 0
        if entry[0] == "push" and entry[1] in steals:
            gone = len(held)
        elif entry[0] == "size":
            gone = len(held) - entry[1]
        for item in held[:gone]:
            asked[item] = True
    return asked


def possible_items(logs):
    """Return the left items that are not needed: the lost worker may steal them after all other entries."""
    needed = needed_items(logs)
    left = left_items(logs)
    return {worker: [item for item in left[worker] if item not in needed[worker]] for worker in left}


def lost_steps(logs):
    """Return the steps between all places, those of the needed steals of the lost worker included."""
    steals = steal_places(logs)
    places = [place for place, entry in all_entries(logs)]
    for items in needed_items(logs).values():
        for item in items:
            steals[item] = (LOST, item)
            places.append((LOST, item))
    return joined(places, all_pairs(logs, steals))


def is_lost_cycle(logs, thing):
    """Return whether any object is a list of places and needed steals that goes round."""
    after = lost_steps(logs)
    if not isinstance(thing, list):
        return False
    if not all([is_place(logs, place) or is_lost_steal(after, place) for place in thing]):
        return False
    return goes_round(after, thing)


def is_lost_steal(after, thing):
    """Return whether any object is the place of a needed steal of the lost worker."""
    if not isinstance(thing, tuple) or len(thing) != 2:
        return False
    return thing[0] == LOST and isinstance(thing[1], str) and thing in after
