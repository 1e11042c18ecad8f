"""A recorder: logs and facts that grow entry by entry."""

from dequelogs.checks import MOST_FACTS, check_place, check_worker, is_integer, is_name
from dequelogs.errors import NoEntry, NoItem, NoNumber, NoPlace, NoWorker, Nothing
from dequelogs.graph import reason
from dequelogs.logs import MOST_WORKERS, is_logs


class Recorder:
    """Logs and facts that grow, with marks to come back to."""

    def __init__(self, workers):
        """Make a recorder without entries for an ascending list of one to six names."""
        check_names(workers)
        self._workers = list(workers)
        # Each call that holds, in the order of time: (worker, entry), or (None, fact).
        self._calls = []
        # For each mark the number of the calls that held when it was made.
        self._marks = []

    def __len__(self):
        """Return the number of calls that hold."""
        return len(self._calls)

    def push(self, worker, item):
        """Add a push to the log of a worker."""
        check_worker(self.logs(), worker)
        check_item_name(item)
        self._add(worker, ("push", item))

    def pop(self, worker, item):
        """Add a pop to the log of a worker."""
        check_worker(self.logs(), worker)
        check_item_name(item)
        self._add(worker, ("pop", item))

    def size(self, worker, n):
        """Add a size to the log of a worker."""
        check_worker(self.logs(), worker)
        self._add(worker, ("size", n))

    def steal(self, worker, victim, item):
        """Add a steal from a victim to the log of a worker."""
        check_worker(self.logs(), worker)
        check_worker(self.logs(), victim)
        check_item_name(item)
        self._add(worker, ("steal", victim, item))

    def fact(self, place, other):
        """Add the fact that the entry at a place came before the entry at another one."""
        logs = self.logs()
        check_place(logs, place)
        check_place(logs, other)
        if place == other:
            raise NoPlace("an entry does not come before itself")
        if len(self.facts()) >= MOST_FACTS:
            raise NoEntry("there are too many facts")
        self._calls.append((None, (place, other)))

    def logs(self):
        """Return the logs that are recorded."""
        return {worker: [entry for owner, entry in self._calls if owner == worker] for worker in self._workers}

    def facts(self):
        """Return the facts that are recorded."""
        return [fact for owner, fact in self._calls if owner is None]

    def status(self):
        """Return None if logs and facts are consistent, else the first certificate against it."""
        return reason(self.logs(), self.facts())

    def undo(self):
        """Undo the last call that added something, and remove the marks that were made after it."""
        if not self._calls:
            raise Nothing("there is nothing to undo")
        self._calls = self._calls[:-1]
        self._marks = [count for count in self._marks if count <= len(self._calls)]

    def mark(self):
        """Make a mark and return its number."""
        self._marks.append(len(self._calls))
        return len(self._marks) - 1

    def undo_to(self, mark):
        """Restore the state at a mark, and remove later marks."""
        if not is_integer(mark) or not 0 <= mark < len(self._marks):
            raise NoNumber("there is no mark with this number")
        self._calls = self._calls[:self._marks[mark]]
        self._marks = self._marks[:mark + 1]

    def twin(self):
        """Return an independent copy."""
        other = Recorder(self._workers)
        other._calls = list(self._calls)
        other._marks = list(self._marks)
        return other

    def _add(self, worker, entry):
        """Add an entry to the log of a worker, if it fits."""
        logs = self.logs()
        logs[worker].append(entry)
        if not is_logs(logs):
            raise NoEntry("the logs with this entry are no logs")
        self._calls.append((worker, entry))


def check_names(workers):
    """Raise NoWorker for any object that is no ascending list of one to six names."""
    if not isinstance(workers, list) or not 1 <= len(workers) <= MOST_WORKERS:
        raise NoWorker("this is no list of one to six workers")
    if not all([is_name(worker) for worker in workers]) or workers != sorted(set(workers)):
        raise NoWorker("these are no ascending names")


def check_item_name(item):
    """Raise NoItem for any object that is no name."""
    if not is_name(item):
        raise NoItem("this is no name of an item")
