"""The profile of a job from the profiles of its parts."""

from roomprofile.integers import is_integer
from roomprofile.profiles.basic import in_sequence, of_step
from roomprofile.profiles.beside import in_parallel
from roomprofile.profiles.many import in_copies, in_rounds


def composed(kind, profiles):
    """The profile of a "seq" or "par" of parts with these profiles."""
    return in_sequence(profiles) if kind == "seq" else in_parallel(profiles)


def multiplied(kind, count, profile):
    """The profile of a "repeat" or "copies" of a job with this profile."""
    return in_rounds(count, profile) if kind == "repeat" else in_copies(count, profile)


def job_profile(job):
    """The profile of what is built like a job, whatever its size."""
    if is_integer(job):
        return of_step(job)
    if job[0] in ("seq", "par"):
        return composed(job[0], [job_profile(part) for part in job[1]])
    return multiplied(job[0], job[1], job_profile(job[2]))
