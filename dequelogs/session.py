"""Sessions: lines that grow a recorder and ask about it, and their answers."""

from dequelogs.errors import Conflict, NoEntry, NoItem, NoPlace, NoWorker, Nothing
from dequelogs.graph import must_precede
from dequelogs.lost import lost_count
from dequelogs.recorder import Recorder
from dequelogs.runs import least_run
from dequelogs.sizes import can_meet
from dequelogs.texts import is_number, write_logs, write_run

UNKNOWN = "?"
# What stands behind the first word of a line: w is any word, n is a number.
FORMS = {
    "push": "ww", "pop": "ww", "size": "wn", "steal": "www", "fact": "wnwn", "undo": "", "logs": "", "status": "",
    "least": "", "before": "wnwn", "meet": "ww", "lost": "",
}


def session(rows):
    """Return the answers to the lines of a string, one line for each."""
    recorder = None
    answers = []
    for line in rows.split("\n"):
        words = line.split(" ")
        if words[0] == "workers" and len(words) > 1 and "" not in words:
            try:
                recorder = Recorder(words[1:])
                answers.append("ok")
            except NoWorker:
                answers.append("NoWorker")
        elif recorder is None or not has_form(words):
            answers.append(UNKNOWN)
        else:
            answers.append(answer(recorder, words))
    return "\n".join(answers)


def has_form(words):
    """Return whether the words of a line are as FORMS asks."""
    if words[0] not in FORMS or "" in words:
        return False
    form = FORMS[words[0]]
    if len(words) != len(form) + 1:
        return False
    return all([kind == "w" or is_number(word) for kind, word in zip(form, words[1:])])


def answer(recorder, words):
    """Return the answer to a line that has a form: the name of the class for an error."""
    try:
        return result(recorder, words)
    except NoWorker:
        return "NoWorker"
    except NoItem:
        return "NoItem"
    except NoPlace:
        return "NoPlace"
    except NoEntry:
        return "NoEntry"
    except Nothing:
        return "Nothing"
    except Conflict:
        return "Conflict"


def result(recorder, words):
    """Return the answer to a line that has a form, if there is no error."""
    match words:
        case ["push", worker, item]:
            recorder.push(worker, item)
        case ["pop", worker, item]:
            recorder.pop(worker, item)
        case ["size", worker, number]:
            recorder.size(worker, int(number))
        case ["steal", worker, victim, item]:
            recorder.steal(worker, victim, item)
        case ["fact", worker, index, later_worker, later_index]:
            recorder.fact((worker, int(index)), (later_worker, int(later_index)))
        case ["undo"]:
            recorder.undo()
        case _:
            return told(recorder, words)
    return "ok"


def told(recorder, words):
    """Return the answer to a question about what is recorded, if there is no error."""
    logs = recorder.logs()
    facts = recorder.facts()
    match words:
        case ["logs"]:
            return "; ".join(write_logs(logs).split("\n"))
        case ["status"]:
            found = recorder.status()
            return "consistent" if found is None else found[0]
        case ["least"]:
            return write_run(least_run(logs, facts))
        case ["before", worker, index, later_worker, later_index]:
            return yes_or_no(must_precede(logs, facts, (worker, int(index)), (later_worker, int(later_index))))
        case ["meet", item, other_item]:
            return yes_or_no(can_meet(logs, facts, item, other_item))
        case _:
            return str(lost_count(logs))


def yes_or_no(holds):
    """Return the word for True or False."""
    return "yes" if holds else "no"
