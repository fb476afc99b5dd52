"""A keeper by the words of 12.1 to 12.3, where all that is left is gone through state by state.

Of the program it uses only the error classes.
"""

from roomprofile import errors
from tests.reference import profile_of
from tests.reference_progress import choices_by_words, is_job_by_words, remainder_by_words, steps_in, tidy_by_words


def attempt(function, *arguments, **more):
    """What a call returns, or the class of the error that it raises and what the error keeps."""
    try:
        return ('returned', function(*arguments, **more))
    except errors.JobError as error:
        return (error.__class__, None)
    except (errors.UnknownName, errors.NameConflict) as error:
        return (error.__class__, error.name)
    except errors.InvalidNumber as error:
        return (error.__class__, error.value)
    except errors.TooMany as error:
        return (error.__class__, error.limit)
    except errors.NotEnough as error:
        return (error.__class__, error.least)


def value_in(job, address):
    for index in address:
        job = job[1][index] if job[0] in ('seq', 'par') else job[2]
    return job


def joint_job(jobs):
    return ('par', tuple(jobs[name][0] for name in sorted(jobs) if steps_in(jobs[name][0]) > 0))


class PlainKeeper:
    """Operations are given jobs and names that are good ones."""

    def __init__(self, capacity, peak_of=lambda job: profile_of(job)[1]):
        self.limit = capacity
        self.jobs = {}
        self.operations = []
        self.past = []
        self.peak_of = peak_of

    def usage(self):
        return sum(usage for _, usage in self.jobs.values())

    def need(self):
        return need_of(self.jobs, self.peak_of)

    def change(self, operation, limit, jobs):
        if not is_job_by_words(joint_job(jobs)):
            raise errors.TooMany(400)
        need = need_of(jobs, self.peak_of)
        if need > limit:
            raise errors.NotEnough(need)
        self.past.append((self.limit, self.jobs))
        self.operations.append(operation)
        self.limit, self.jobs = limit, jobs

    def admit(self, name, job):
        if name in self.jobs:
            raise errors.NameConflict(name)
        if len(self.jobs) == 20:
            raise errors.TooMany(20)
        self.change(('admit', name, job), self.limit, {**self.jobs, name: (job, 0)})

    def jobs_after(self, name, choice):
        if name not in self.jobs:
            raise errors.UnknownName(name)
        job, usage = self.jobs[name]
        if choice not in choices_by_words(job):
            raise errors.InvalidChoice('')
        left = tidy_by_words(remainder_by_words(job, choice))
        if not is_job_by_words(left):
            raise errors.TooMany(400)
        return {**self.jobs, name: (left, usage + value_in(job, choice))}

    def grant(self, name, choice):
        jobs = self.jobs_after(name, choice)
        step = value_in(self.jobs[name][0], choice)
        self.change(('grant', name, choice), self.limit, jobs)
        return step

    def is_granted(self, name, choice):
        jobs = self.jobs_after(name, choice)
        if not is_job_by_words(joint_job(jobs)):
            raise errors.TooMany(400)
        return need_of(jobs, self.peak_of) <= self.limit

    def grantable(self):
        found = []
        for name in sorted(self.jobs):
            for choice in sorted(choices_by_words(self.jobs[name][0])):
                if attempt(self.is_granted, name, choice) == ('returned', True):
                    found.append((name, choice))
        return tuple(found)

    def set_capacity(self, capacity):
        if capacity < 0:
            raise errors.InvalidNumber(capacity)
        self.change(('capacity', capacity), capacity, self.jobs)

    def remove(self, name):
        if name not in self.jobs:
            raise errors.UnknownName(name)
        self.change(('remove', name), self.limit, {other: row for other, row in self.jobs.items() if other != name})

    def undo(self):
        if not self.past:
            raise errors.InvalidOperation('')
        self.limit, self.jobs = self.past.pop()
        self.operations.pop()


def need_of(jobs, peak_of):
    return sum(usage for _, usage in jobs.values()) + peak_of(joint_job(jobs))
