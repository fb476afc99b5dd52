"""A keeper, which grants the steps of jobs one at a time and never gets stuck."""

from roomprofile.barriers.find import barrier_of
from roomprofile.errors import InvalidNumber, InvalidOperation, NameConflict, NotEnough, TooMany, UnknownName
from roomprofile.integers import check_number
from roomprofile.jobs.addresses import find_step
from roomprofile.jobs.jobs import MAX_NODES, checked_sizes, is_empty, is_job
from roomprofile.names import is_name
from roomprofile.plans.best import best_pair
from roomprofile.profiles.composed import job_profile
from roomprofile.progress.choices import choices, do_step

MAX_JOBS = 20


class Keeper:
    """Jobs under names, what remains of each, and a capacity in which all of it can be done.

    `rows` has the pair (remaining job, usage) for each name. A dict of rows is never changed: an operation
    makes a new one, and `past` keeps what was before it, in rows (operation, capacity, rows).
    """

    def __init__(self, capacity):
        _check_capacity(capacity)
        self.limit = capacity
        self.rows = {}
        self.past = []

    def capacity(self):
        """The capacity."""
        return self.limit

    def usage(self):
        """The sum of all granted steps of the jobs."""
        return _usage_of_rows(self.rows)

    def need(self):
        """The least capacity in which all remaining steps can be done."""
        return _need_of_rows(self.rows)

    def names(self):
        """The names of all jobs in ascending order."""
        return tuple(sorted(self.rows))

    def remaining(self, name):
        """What remains of the job."""
        return self._row(name)[0]

    def usage_of(self, name):
        """The sum of the granted steps of the job."""
        return self._row(name)[1]

    def admit(self, name, job):
        """Adds a job under the name."""
        if not is_name(name):
            raise UnknownName(name)
        if name in self.rows:
            raise NameConflict(name)
        checked_sizes(job)
        if len(self.rows) == MAX_JOBS:
            raise TooMany(MAX_JOBS)
        self._do(("admit", name, job), self.limit, {**self.rows, name: (job, 0)})

    def grant(self, name, choice):
        """Does the step of the job at the choice, and returns the step."""
        before = self.usage()
        self._do(("grant", name, choice), self.limit, self._rows_after(name, choice))
        return self.usage() - before

    def refusal(self, name, choice):
        """Any barrier that shows why the step is not granted, or None if it would be."""
        rows = self._rows_after(name, choice)
        return barrier_of(_joint_job(rows), self.limit - _usage_of_rows(rows))

    def grantable(self):
        """All pairs (name, choice) that would be granted, in ascending order."""
        found = []
        for name in self.names():
            found.extend([(name, choice) for choice in choices(self.remaining(name)) if self._may_grant(name, choice)])
        return tuple(found)

    def next_grant(self):
        """Any pair (name, choice) that would be granted, or None if there is none."""
        names = _unfinished_names(self.rows)
        if not names:
            return None
        # The best order of all that is left begins with a step after which all can still be finished.
        address = best_pair(_joint_job(self.rows))[1].address_at(0)
        name, choice = names[address[0]], address[1:]
        if self._may_grant(name, choice):
            return (name, choice)
        # Its remainder would exceed the limits of a job; that of another step may not.
        found = self.grantable()
        return found[0] if found else None

    def set_capacity(self, capacity):
        """Changes the capacity."""
        _check_capacity(capacity)
        self._do(("capacity", capacity), capacity, self.rows)

    def remove(self, name):
        """Takes out a job with its usage."""
        self._row(name)
        self._do(("remove", name), self.limit, {other: self.rows[other] for other in self.rows if other != name})

    def undo(self):
        """Takes back the last operation that has not been taken back."""
        if not self.past:
            raise InvalidOperation("there is no operation to take back")
        _, self.limit, self.rows = self.past.pop()

    def log(self):
        """The operations that have not been taken back, in order."""
        return tuple([row[0] for row in self.past])

    def __len__(self):
        return len(_unfinished_names(self.rows))

    def __str__(self):
        return f"keeper with {len(self.rows)} jobs, usage {self.usage()} of {self.limit}"

    def __eq__(self, value):
        return isinstance(value, Keeper) and self.limit == value.limit and self.rows == value.rows

    def _row(self, name):
        if not is_name(name) or name not in self.rows:
            raise UnknownName(name)
        return self.rows[name]

    def _rows_after(self, name, choice):
        """The rows after the step of the job, whether or not the rest can be finished then."""
        job, usage = self._row(name)
        left = do_step(job, choice)
        return {**self.rows, name: (left, usage + find_step(job, choice))}

    def _may_grant(self, name, choice):
        try:
            return _need_of_rows(self._rows_after(name, choice)) <= self.limit
        except TooMany:
            return False

    def _do(self, operation, limit, rows):
        """Does an operation that leads to this capacity and these rows, if all can be finished then."""
        need = _need_of_rows(rows)
        if need > limit:
            raise NotEnough(need)
        self.past.append((operation, self.limit, self.rows))
        self.limit = limit
        self.rows = rows


def _check_capacity(capacity):
    check_number(capacity)
    if capacity < 0:
        raise InvalidNumber(capacity)


def _unfinished_names(rows):
    return [name for name in sorted(rows) if not is_empty(rows[name][0])]


def _joint_job(rows):
    """The joint job. Raises TooMany if it would not be a job."""
    joint = ("par", tuple([rows[name][0] for name in _unfinished_names(rows)]))
    if not is_job(joint):
        raise TooMany(MAX_NODES)
    return joint


def _usage_of_rows(rows):
    return sum([row[1] for row in rows.values()])


def _need_of_rows(rows):
    return _usage_of_rows(rows) + job_profile(_joint_job(rows))[1]
