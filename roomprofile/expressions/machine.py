"""Evaluation within a capacity, in the best order or step by step."""

from roomprofile.errors import InvalidOperation, InvalidRun, NotEnough
from roomprofile.expressions.expressions import built_job, check_expression, found_value
from roomprofile.expressions.holding import held_pairs
from roomprofile.integers import check_number
from roomprofile.jobs.addresses import check_small
from roomprofile.jobs.done import DoneSteps
from roomprofile.plans.best import best_plan
from roomprofile.plans.orders import run_of_plan
from roomprofile.profiles.composed import job_profile


def evaluate_within(expression, capacity):
    """The pair of the value and the least peak, which must fit the capacity."""
    check_expression(expression)
    check_number(capacity)
    peak = job_profile(built_job(expression))[1]
    if peak > capacity:
        raise NotEnough(peak)
    return (found_value(expression), peak)


def evaluation_order(expression):
    """Any complete run of the job with the least peak."""
    job = _small_job(expression)
    return run_of_plan(job, best_plan(job))


class Machine:
    """An evaluation whose steps are done one at a time, within a capacity."""

    def __init__(self, expression, *, capacity):
        self.progress = DoneSteps(_small_job(expression))
        check_number(capacity)
        self.expression = expression
        self.limit = capacity
        self.order = []

    def available(self):
        """The addresses of the available steps in ascending order."""
        return tuple([address for address in self.progress.rows if self.progress.may_do(address)])

    def usage(self):
        """The sum of the held sizes."""
        return self.progress.usages[-1]

    def peak(self):
        """The greatest usage so far."""
        return max(self.progress.usages)

    def held(self):
        """The held pairs (value, size) in Python's order."""
        return tuple(sorted(held_pairs(self.expression, (), self.progress.done)))

    def result(self):
        """The value when all steps are done, and None before."""
        return found_value(self.expression) if self.progress.is_complete() else None

    def do(self, address):
        """Does the available step at the address."""
        if not self.progress.may_do(address):
            raise InvalidRun("this is not the address of an available step")
        usage = self.usage() + self.progress.rows[address][0]
        if usage > self.limit:
            raise NotEnough(usage)
        self.progress.do_step(address)
        self.order.append(address)

    def undo(self):
        """Takes back the last step."""
        if not self.order:
            raise InvalidOperation("no step is done")
        self.progress.undo_step(self.order.pop())

    def __len__(self):
        return len(self.order)

    def __str__(self):
        return f"{len(self.order)} of {len(self.progress.rows)} steps, usage {self.usage()}"

    def __eq__(self, value):
        if not isinstance(value, Machine):
            return False
        return self.expression == value.expression and self.limit == value.limit and self.order == value.order


def _small_job(expression):
    check_expression(expression)
    job = built_job(expression)
    check_small(job)
    return job
