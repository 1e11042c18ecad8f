"""What must come before what, and whether logs and facts are consistent."""

from dequelogs.checks import check_facts, check_place, is_place
from dequelogs.errors import Conflict
from dequelogs.logs import all_entries, check_logs, open_lists, steal_places

# A steal by a worker whose log is lost has the place (LOST, item).
LOST = "?"


def precedences(logs):
    """Return the ascending list of the pairs of places of which the first comes before the second."""
    check_logs(logs)
    return sorted(set(all_pairs(logs, steal_places(logs))))


def consistent(logs, facts):
    """Return whether logs and facts have a run."""
    check_logs(logs)
    check_facts(logs, facts)
    return first_certificate(logs, facts) is None


def reason(logs, facts):
    """Return None if logs and facts are consistent, else the first certificate against it."""
    check_logs(logs)
    check_facts(logs, facts)
    return first_certificate(logs, facts)


def shows(logs, facts, thing):
    """Return whether any object is a true certificate."""
    check_logs(logs)
    check_facts(logs, facts)
    if not isinstance(thing, tuple) or len(thing) < 2:
        return False
    if thing[0] == "cycle":
        return len(thing) == 2 and is_cycle(logs, facts, thing[1])
    # A boolean equals an integer, so the place is judged before certificates are compared.
    if not is_place(logs, thing[1:3]):
        return False
    worker = thing[1]
    return thing in log_faults(worker, logs[worker], steal_places(logs))


def must_precede(logs, facts, one, other):
    """Return whether the entry at one comes before the entry at other in all runs."""
    check_question(logs, facts, [one, other])
    return other in places_behind(steps(logs, facts), [one])


def path(logs, facts, one, other):
    """Return places that lead from one to other, or None if one need not come before other."""
    check_question(logs, facts, [one, other])
    before = places_behind(steps(logs, facts), [one])
    if other not in before:
        return None
    places = [other]
    while places[-1] != one:
        places.append(before[places[-1]])
    return places[::-1]


def needed_before(logs, facts, place):
    """Return the ascending list of the places that come before a place in all runs."""
    check_question(logs, facts, [place])
    return sorted(places_behind(turned(steps(logs, facts)), [place]))


def needed_after(logs, facts, place):
    """Return the ascending list of the places that come after a place in all runs."""
    check_question(logs, facts, [place])
    return sorted(places_behind(steps(logs, facts), [place]))


def check_question(logs, facts, places):
    """Raise the error that is due for the arguments of a question about places."""
    check_logs(logs)
    check_facts(logs, facts)
    for place in places:
        check_place(logs, place)
    check_consistent(logs, facts)


def check_consistent(logs, facts):
    """Raise Conflict for logs and facts that are not consistent."""
    found = first_certificate(logs, facts)
    if found is not None:
        raise Conflict(found)


def all_pairs(logs, steals):
    """Return the pairs of precedences in any order, perhaps with duplicates, given the places of all steals."""
    pairs = []
    for worker, log in logs.items():
        pairs += order_pairs(worker, log)
        pairs += steal_pairs(worker, log, steals)
        pairs += size_pairs(worker, log, steals)
    return pairs


def order_pairs(worker, log):
    """Return the pairs of each entry of a log and the next one."""
    return [((worker, index), (worker, index + 1)) for index in range(len(log) - 1)]


def steal_pairs(worker, log, steals):
    """Return the pairs of push and steal, and of steals that follow one another, for the deque of a worker."""
    pairs = []
    last = None
    for index, entry in enumerate(log):
        if entry[0] == "push" and entry[1] in steals:
            steal = steals[entry[1]]
            pairs.append(((worker, index), steal))
            if last is not None:
                pairs.append((last, steal))
            last = steal
    return pairs


def size_pairs(worker, log, steals):
    """Return the pairs of the sizes of a log and the steals just before and just after them."""
    pairs = []
    lists = open_lists(log)
    for index, entry in enumerate(log):
        held = lists[index]
        if entry[0] == "size" and entry[1] <= len(held):
            gone = len(held) - entry[1]
            if gone > 0 and held[gone - 1] in steals:
                pairs.append((steals[held[gone - 1]], (worker, index)))
            if gone < len(held) and held[gone] in steals:
                pairs.append(((worker, index), steals[held[gone]]))
    return pairs


def first_certificate(logs, facts):
    """Return the certificate that reason promises, for logs and facts that were checked."""
    steals = steal_places(logs)
    for worker in sorted(logs):
        faults = log_faults(worker, logs[worker], steals)
        if faults:
            return faults[0]
    places = find_cycle(steps(logs, facts))
    if places:
        return ("cycle", places)
    return None


def log_faults(worker, log, steals):
    """Return the true certificates that name an entry of a log, by index."""
    faults = []
    lists = open_lists(log)
    for index, entry in enumerate(log):
        faults += entry_faults((worker, index), entry, lists[index], steals)
    return faults


def entry_faults(place, entry, held, steals):
    """Return the true certificates that name an entry, the one that reason prefers first."""
    worker, index = place
    if entry[0] == "pop":
        newer = held[held.index(entry[1]) + 1:]
        return [("newer", worker, index, item) for item in newer[::-1]]
    if entry[0] == "push" and entry[1] in steals:
        return [("kept", worker, index, item) for item in held if item not in steals]
    if entry[0] == "size" and entry[1] > len(held):
        return [("few", worker, index)]
    if entry[0] == "size":
        gone = held[:len(held) - entry[1]]
        return [("present", worker, index, item) for item in gone if item not in steals]
    return []


def steps(logs, facts):
    """Return for each place the places that directly come after it, perhaps with duplicates."""
    places = [place for place, entry in all_entries(logs)]
    return joined(places, all_pairs(logs, steal_places(logs)) + facts)


def joined(places, pairs):
    """Return for each of the places the places that the pairs put directly after it."""
    after = {place: [] for place in places}
    for place, later in pairs:
        after[place].append(later)
    return after


def turned(after):
    """Return the steps in the opposite direction."""
    before = {place: [] for place in after}
    for place in after:
        for later in after[place]:
            before[later].append(place)
    return before


def places_behind(after, starts):
    """Return each place that the steps lead to from the starts, with the place before it on a shortest way."""
    before = {}
    reached = list(starts)
    count = 0
    while count < len(reached):
        place = reached[count]
        count += 1
        for later in after[place]:
            if later not in before:
                before[later] = place
                reached.append(later)
    return before


def find_cycle(after):
    """Return the places of a cycle of the steps in their order, or an empty list if there is none."""
    stuck = stuck_places(after)
    if not stuck:
        return []
    before = {later: place for place in stuck for later in after[place]}
    # Each stuck place waits for another one, so going back comes to a place a second time.
    walk = [stuck[0]]
    while before[walk[-1]] not in walk:
        walk.append(before[walk[-1]])
    return walk[walk.index(before[walk[-1]]):][::-1]


def stuck_places(after):
    """Return the places that no order of the steps comes to."""
    reached = {place: True for place in least_order(after)}
    return [place for place in after if place not in reached]


def least_order(after):
    """Return the places that an order of the steps comes to, each time the least one that is ready."""
    waits = {place: 0 for place in after}
    for place in after:
        for later in after[place]:
            waits[later] += 1
    ready = [place for place in after if waits[place] == 0]
    order = []
    while ready:
        place = min(ready)
        ready.remove(place)
        order.append(place)
        for later in after[place]:
            waits[later] -= 1
            if waits[later] == 0:
                ready.append(later)
    return order


def is_cycle(logs, facts, thing):
    """Return whether any object is a list of places that goes round by the precedences and the facts."""
    if not isinstance(thing, list) or not all([is_place(logs, place) for place in thing]):
        return False
    return goes_round(steps(logs, facts), thing)


def goes_round(after, places):
    """Return whether each of two or more different places comes before the next one, and the last before the first."""
    if len(places) < 2 or len(set(places)) < len(places):
        return False
    following = places[1:] + places[:1]
    return all([comes_before(after, place, later) for place, later in zip(places, following)])


def comes_before(after, place, later):
    """Return whether a place comes before another one directly or by being earlier in the same log."""
    # The order of a lost log is lost, too.
    same_log = place[0] == later[0] and place[0] != LOST
    if same_log and place[1] < later[1]:
        return True
    return later in after[place]
