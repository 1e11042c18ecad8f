"""What names, integers, entries, places and facts look like."""

from dequelogs.errors import NoFacts, NoPlace, NoWorker

MOST_LETTERS = 8
MOST_ITEMS = 60
MOST_FACTS = 200


def is_integer(thing):
    """Return whether any object is an integer; booleans are none."""
    return isinstance(thing, int) and not isinstance(thing, bool)


def is_name(thing):
    """Return whether any object is a name."""
    if not isinstance(thing, str) or not 1 <= len(thing) <= MOST_LETTERS:
        return False
    return all(["a" <= letter <= "z" for letter in thing])


def is_size(thing):
    """Return whether any object is a number that a size entry may tell."""
    return is_integer(thing) and 0 <= thing <= MOST_ITEMS


def is_entry(thing):
    """Return whether any object has the form of an entry."""
    if not isinstance(thing, tuple):
        return False
    if len(thing) == 2 and thing[0] in ("push", "pop"):
        return is_name(thing[1])
    if len(thing) == 2 and thing[0] == "size":
        return is_size(thing[1])
    if len(thing) == 3 and thing[0] == "steal":
        return is_name(thing[1]) and is_name(thing[2])
    return False


def is_worker(logs, thing):
    """Return whether any object is a worker of the logs."""
    return isinstance(thing, str) and thing in logs


def is_place(logs, thing):
    """Return whether any object is the place of an entry of the logs."""
    if not isinstance(thing, tuple) or len(thing) != 2:
        return False
    worker, index = thing
    if not is_worker(logs, worker) or not is_integer(index):
        return False
    return 0 <= index < len(logs[worker])


def is_fact(logs, thing):
    """Return whether any object is a pair of different places of the logs."""
    if not isinstance(thing, tuple) or len(thing) != 2:
        return False
    place, other = thing
    return is_place(logs, place) and is_place(logs, other) and place != other


def is_facts(logs, thing):
    """Return whether any object is facts about the logs."""
    if not isinstance(thing, list) or len(thing) > MOST_FACTS:
        return False
    return all([is_fact(logs, fact) for fact in thing])


def check_facts(logs, facts):
    """Raise NoFacts for any object that is no facts about the logs."""
    if not is_facts(logs, facts):
        raise NoFacts("these are no facts about the logs")


def check_worker(logs, worker):
    """Raise NoWorker for any object that is no worker of the logs."""
    if not is_worker(logs, worker):
        raise NoWorker("the logs have no such worker")


def check_place(logs, place):
    """Raise NoPlace for any object that is no place of the logs."""
    if not is_place(logs, place):
        raise NoPlace("the logs have no entry at this place")
