"""Runs of a small job: steps one after another, each with all that precedes it done before."""

from roomprofile.errors import InvalidRun
from roomprofile.jobs.addresses import check_small
from roomprofile.jobs.states import checked_state


def is_run(job, value, *, state=()):
    """Whether the value is a run from the state."""
    return _state_steps(job, state).do_all(value)


def is_complete_run(job, value, *, state=()):
    """Whether the value is a run from the state after which all steps are done."""
    steps = _state_steps(job, state)
    return steps.do_all(value) and steps.is_complete()


def some_run(job, *, state=()):
    """Any complete run from the state."""
    steps = _state_steps(job, state)
    # What precedes a step has a smaller address, so the remaining steps in ascending order are a run.
    return tuple([address for address in steps.rows if address not in steps.done])


def state_after(job, run, *, state=()):
    """The state of all steps that are in the state or in the run."""
    _steps_after(job, run, state)
    return tuple(sorted(state + run))


def run_usages(job, run, *, state=()):
    """The usage of the state, and the usage after each step of the run."""
    steps = _steps_after(job, run, state)
    return tuple(steps.usages[len(state):])


def run_peak(job, run, *, state=()):
    """The greatest usage of the run, that of the state included."""
    steps = _steps_after(job, run, state)
    return max(steps.usages[len(state):])


def lift_run(job, run, state):
    """The run without the steps that are in the state: a run from the state."""
    inside = _steps_of_run_and_state(job, run, state)
    return tuple([address for address in run if address not in inside])


def cut_run(job, run, state):
    """The steps of the run that are in the state: a run."""
    inside = _steps_of_run_and_state(job, run, state)
    return tuple([address for address in run if address in inside])


def _state_steps(job, state):
    check_small(job)
    return checked_state(job, state)


def _steps_after(job, run, state):
    """The done steps after the run from the state. Raises InvalidRun for any other value."""
    steps = _state_steps(job, state)
    if not steps.do_all(run):
        raise InvalidRun("this is not a run of the job from the state")
    return steps


def _steps_of_run_and_state(job, run, state):
    _steps_after(job, run, ())
    return checked_state(job, state).done
