"""Logs: whether an object is logs, and what becomes of the items in them."""

from dequelogs.checks import check_place, check_worker, is_entry, is_name
from dequelogs.errors import NoLogs

MOST_WORKERS = 6
MOST_ENTRIES = 60


def is_logs(thing):
    """Return whether any object is logs."""
    if not isinstance(thing, dict) or not 1 <= len(thing) <= MOST_WORKERS:
        return False
    if not all([is_name(worker) and is_log(log) for worker, log in thing.items()]):
        return False
    return items_fit(thing)


def pushes(logs):
    """Return the places of the pushes of all pushed items."""
    check_logs(logs)
    places = push_places(logs)
    return {item: places[item] for item in sorted(places)}


def removals(logs):
    """Return the places of the pops or steals of all pushed items, or None."""
    check_logs(logs)
    places = removal_places(logs)
    return {item: places.get(item) for item in sorted(push_places(logs))}


def left_items(logs):
    """Return for each worker the items that it pushes and nobody removes."""
    check_logs(logs)
    places = removal_places(logs)
    return {worker: [item for item in pushed_items(logs[worker]) if item not in places]
            for worker in sorted(logs)}


def open_items(logs, worker, index):
    """Return the open items at an entry, oldest first."""
    check_logs(logs)
    check_worker(logs, worker)
    check_place(logs, (worker, index))
    return open_lists(logs[worker])[index]


def stolen_items(logs, worker):
    """Return the items that are stolen from a worker, in the order of their pushes."""
    check_logs(logs)
    check_worker(logs, worker)
    places = steal_places(logs)
    return [item for item in pushed_items(logs[worker]) if item in places]


def check_logs(logs):
    """Raise NoLogs for any object that is no logs."""
    if not is_logs(logs):
        raise NoLogs("these are no logs")


def is_log(thing):
    """Return whether any object is a list of entries that is not too long."""
    if not isinstance(thing, list) or len(thing) > MOST_ENTRIES:
        return False
    return all([is_entry(entry) for entry in thing])


def items_fit(logs):
    """Return whether each item is pushed and removed as in logs."""
    rows = all_entries(logs)
    pushed = [entry[1] for place, entry in rows if entry[0] == "push"]
    removed = [entry[-1] for place, entry in rows if entry[0] in ("pop", "steal")]
    if len(set(pushed)) < len(pushed) or len(set(removed)) < len(removed):
        return False
    places = push_places(logs)
    return all([removal_fits(places, place, entry) for place, entry in rows])


def removal_fits(places, place, entry):
    """Return whether an entry, if it removes an item, may remove it, given the places of the pushes."""
    if entry[0] not in ("pop", "steal"):
        return True
    if entry[-1] not in places:
        return False
    owner, index = places[entry[-1]]
    if entry[0] == "pop":
        return owner == place[0] and index < place[1]
    return owner == entry[1] and owner != place[0]


def all_entries(logs):
    """Return all places with their entries, by worker and then by index."""
    return [((worker, index), entry) for worker in sorted(logs) for index, entry in enumerate(logs[worker])]


def push_places(logs):
    """Return the places of the pushes of all pushed items, in any order."""
    return {entry[1]: place for place, entry in all_entries(logs) if entry[0] == "push"}


def steal_places(logs):
    """Return the places of the steals of all stolen items, in any order."""
    return {entry[2]: place for place, entry in all_entries(logs) if entry[0] == "steal"}


def removal_places(logs):
    """Return the places of the pops or steals of all removed items, in any order."""
    return {entry[-1]: place for place, entry in all_entries(logs) if entry[0] in ("pop", "steal")}


def pushed_items(log):
    """Return the items that a log pushes, in its order."""
    return [entry[1] for entry in log if entry[0] == "push"]


def open_lists(log):
    """Return the lists of the open items at all entries of a log, oldest first."""
    lists = []
    held = []
    for entry in log:
        lists.append(list(held))
        if entry[0] == "push":
            held.append(entry[1])
        elif entry[0] == "pop":
            held.remove(entry[1])
    return lists
