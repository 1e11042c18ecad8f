"""Texts of logs, facts and runs."""

from dequelogs.checks import MOST_FACTS, is_name
from dequelogs.errors import NoText
from dequelogs.logs import is_logs

MOST_DIGITS = 9
LONGEST_RUN = 360
# The text of no facts, and of the empty run.
NONE = "-"
SIGNS = {"push": "+", "pop": "-", "size": "="}


def write_logs(logs):
    """Return the text of logs: one line for each worker."""
    return "\n".join([write_log(worker, logs[worker]) for worker in sorted(logs)])


def read_logs(text):
    """Return the logs of a text."""
    logs = {}
    last = ""
    lines = text.split("\n")
    for at, line in enumerate(lines):
        words = line.split(" ")
        worker = words[0][:-1]
        log = [read_entry(word) for word in words[1:]]
        if words[0] != f"{worker}:" or not is_name(worker) or None in log or worker <= last:
            raise NoText(at)
        logs[worker] = log
        last = worker
    if not is_logs(logs):
        raise NoText(len(lines))
    return logs


def write_facts(facts):
    """Return the text of facts: one word for each."""
    return write_words([f"{write_place(one)}<{write_place(other)}" for one, other in facts])


def read_facts(text):
    """Return the facts of a text."""
    return read_words(text, read_fact, MOST_FACTS)


def write_run(run):
    """Return the text of a run: one word for each of its entries."""
    return write_words(run)


def read_run(text):
    """Return the run of a text."""
    return read_words(text, read_name, LONGEST_RUN)


def write_log(worker, log):
    """Return the line of a worker."""
    return " ".join([f"{worker}:"] + [write_entry(entry) for entry in log])


def write_entry(entry):
    """Return the word of an entry."""
    if entry[0] == "steal":
        return f"<{entry[1]}.{entry[2]}"
    return f"{SIGNS[entry[0]]}{entry[1]}"


def read_entry(word):
    """Return the entry of a word, or None; the size of an entry may be too great for logs."""
    sign = word[:1]
    rest = word[1:]
    if sign == "+" and is_name(rest):
        return ("push", rest)
    if sign == "-" and is_name(rest):
        return ("pop", rest)
    if sign == "=" and is_number(rest):
        return ("size", int(rest))
    worker, _, item = rest.partition(".")
    if sign == "<" and is_name(worker) and is_name(item):
        return ("steal", worker, item)
    return None


def write_words(words):
    """Return the text of words."""
    return " ".join(words) if words else NONE


def read_words(text, read_word, most):
    """Return what each word of a text stands for; read_word returns None for a word that stands for nothing."""
    if text == NONE:
        return []
    words = text.split(" ")
    if words[0] == NONE:
        # The first word could stand alone, so it is the second one that cannot stand there.
        raise NoText(1)
    found = []
    for at, word in enumerate(words):
        thing = read_word(word)
        if thing is None or at >= most:
            raise NoText(at)
        found.append(thing)
    return found


def read_name(word):
    """Return a word that is a name, or None."""
    return word if is_name(word) else None


def read_fact(word):
    """Return the fact of a word, or None."""
    left, _, right = word.partition("<")
    one = read_place(left)
    other = read_place(right)
    if one is None or other is None or one == other:
        return None
    return (one, other)


def write_place(place):
    """Return the text of a place."""
    worker, index = place
    return f"{worker}.{index}"


def read_place(text):
    """Return the place of a text, or None."""
    worker, _, index = text.partition(".")
    if not is_name(worker) or not is_number(index):
        return None
    return (worker, int(index))


def is_number(word):
    """Return whether a word is a number of one to nine digits without leading zeros."""
    if not 1 <= len(word) <= MOST_DIGITS or not all(["0" <= digit <= "9" for digit in word]):
        return False
    return word == "0" or word[0] != "0"
