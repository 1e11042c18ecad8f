"""Logs and facts without one of their entries, and which single entries spoil them."""

from dequelogs.checks import check_facts, check_place
from dequelogs.graph import consistent
from dequelogs.logs import all_entries, check_logs, removal_places


def without(logs, facts, place):
    """Return the logs and the facts without an entry, and without the removal of the item that it pushes."""
    check_logs(logs)
    check_facts(logs, facts)
    check_place(logs, place)
    return parts_without(logs, facts, place)


def repairs(logs, facts):
    """Return the ascending list of the places whose removal gives consistent logs and facts."""
    check_logs(logs)
    check_facts(logs, facts)
    found = []
    for place, _ in all_entries(logs):
        fewer_logs, fewer_facts = parts_without(logs, facts, place)
        if consistent(fewer_logs, fewer_facts):
            found.append(place)
    return found


def parts_without(logs, facts, place):
    """Return what without promises, for arguments that were checked."""
    moved = moved_places(logs, places_gone(logs, place))
    fewer_logs = {worker: [] for worker in sorted(logs)}
    for (worker, index), entry in all_entries(logs):
        if (worker, index) in moved:
            fewer_logs[worker].append(entry)
    fewer_facts = [(moved[one], moved[other]) for one, other in facts if one in moved and other in moved]
    return (fewer_logs, fewer_facts)


def places_gone(logs, place):
    """Return the places of the entries that are removed together with the one at a place, itself included."""
    worker, index = place
    entry = logs[worker][index]
    removed = removal_places(logs)
    if entry[0] == "push" and entry[1] in removed:
        return [place, removed[entry[1]]]
    return [place]


def moved_places(logs, gone):
    """Return for each place that is not gone its place when the gone ones have been removed."""
    moved = {}
    for worker, log in logs.items():
        kept = [(worker, index) for index in range(len(log)) if (worker, index) not in gone]
        for index, place in enumerate(kept):
            moved[place] = (worker, index)
    return moved
