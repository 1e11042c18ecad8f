"""How large deques can be, which items can meet in them, and when they can be empty."""

from dequelogs.checks import check_facts, check_place, check_worker, is_worker
from dequelogs.errors import NoItem, NoWorker
from dequelogs.graph import check_consistent, least_order, places_behind, steps, turned
from dequelogs.logs import check_logs, push_places, removal_places
from dequelogs.runs import workers_of


def size_range(logs, facts, worker, place):
    """Return the least and the greatest size that a deque has directly before an entry."""
    check_logs(logs)
    check_facts(logs, facts)
    check_worker(logs, worker)
    check_place(logs, place)
    check_consistent(logs, facts)
    after = steps(logs, facts)
    before = turned(after)
    early = places_behind(before, [place])
    late = with_reached(after, [place])
    own = [(worker, index) for index in range(len(logs[worker]))]
    first = len([other for other in own if other in early])
    last = len([other for other in own if other not in late])
    sizes = []
    # With the number of own entries given, the deque is shortest after all other entries that may come before, and
    # longest after only those that must.
    for count in range(first, last + 1):
        never = with_reached(after, [place] + own[count:])
        sizes.append(size_after(logs, worker, [other for other in after if other not in never]))
        sizes.append(size_after(logs, worker, with_reached(before, list(early) + own[:count])))
    return (min(sizes), max(sizes))


def greatest_size(logs, facts, worker):
    """Return the greatest size that a deque has at any moment of any run."""
    check_logs(logs)
    check_facts(logs, facts)
    check_worker(logs, worker)
    check_consistent(logs, facts)
    before = turned(steps(logs, facts))
    own = [(worker, index) for index in range(len(logs[worker]))]
    return max([size_after(logs, worker, with_reached(before, own[:count])) for count in range(len(own) + 1)])


def can_meet(logs, facts, item, other_item):
    """Return whether two items can lie in deques at the same moment of some run."""
    check_logs(logs)
    check_facts(logs, facts)
    check_item(logs, item)
    check_item(logs, other_item)
    check_consistent(logs, facts)
    places = push_places(logs)
    done = with_reached(turned(steps(logs, facts)), [places[item], places[other_item]])
    gone = removal_places(logs)
    return gone.get(item) not in done and gone.get(other_item) not in done


def can_be_empty(logs, facts, workers, after, before):
    """Return whether some run has a moment between two entries at which the deques of the workers are empty."""
    check_moment(logs, facts, workers, after, before)
    return least_moment(logs, facts, workers, after, before) is not None


def empty_moment(logs, facts, workers, after, before):
    """Return a run and the number of its entries before a moment as in can_be_empty, or None."""
    check_moment(logs, facts, workers, after, before)
    done = least_moment(logs, facts, workers, after, before)
    if done is None:
        return None
    order = least_order(steps(logs, facts))
    run = [place for place in order if place in done] + [place for place in order if place not in done]
    return (workers_of(run), len(done))


def check_item(logs, item):
    """Raise NoItem for any object that is no pushed item."""
    if not isinstance(item, str) or item not in push_places(logs):
        raise NoItem("nobody pushes this item")


def check_workers(logs, workers):
    """Raise NoWorker for any object that is no ascending list of workers of the logs."""
    if not isinstance(workers, list) or not all([is_worker(logs, worker) for worker in workers]):
        raise NoWorker("this is no list of workers of the logs")
    if workers != sorted(set(workers)):
        raise NoWorker("these workers are not ascending")


def check_moment(logs, facts, workers, after, before):
    """Raise the error that is due for the arguments of a question about empty deques."""
    check_logs(logs)
    check_facts(logs, facts)
    check_workers(logs, workers)
    if after is not None:
        check_place(logs, after)
    if before is not None:
        check_place(logs, before)
    check_consistent(logs, facts)


def with_reached(after, places):
    """Return places and all places that the steps lead to from them, as the keys of a dict."""
    return {place: True for place in list(places) + list(places_behind(after, places))}


def size_after(logs, worker, done):
    """Return the size of the deque of a worker when exactly the places in done have been passed."""
    size = 0
    for place in done:
        entry = logs[place[0]][place[1]]
        if place[0] == worker and entry[0] == "push":
            size += 1
        elif place[0] == worker and entry[0] == "pop":
            size -= 1
        elif entry[0] == "steal" and entry[1] == worker:
            size -= 1
    return size


def least_moment(logs, facts, workers, after, before):
    """Return what is done at the earliest moment as in can_be_empty, as the keys of a dict, or None."""
    asks = turned(steps(logs, facts))
    barred = [before]
    gone = removal_places(logs)
    for item, place in push_places(logs).items():
        # When an item of these workers has been pushed, it has been removed as well.
        if place[0] in workers and item in gone:
            asks[place].append(gone[item])
        elif place[0] in workers:
            barred.append(place)
    done = with_reached(asks, [] if after is None else [after])
    if any([place in done for place in barred]):
        return None
    return done
