"""The profile of jobs in parallel."""

from roomprofile.profiles.forms import check_profiles, checked_profile
from roomprofile.valleys.joint import joint_pairs
from roomprofile.valleys.valleys import moved


def par_profiles(profiles):
    """The profile of jobs with these profiles in parallel."""
    check_profiles(profiles)
    return checked_profile(in_parallel(profiles))


def in_parallel(profiles):
    """The profile of jobs with these profiles in parallel, with valleys of any length."""
    total = sum([part[0] for part in profiles])
    starts = joint_pairs([part[2] for part in profiles])
    # Seen from the end, going back to a low state is going down to it in the mirror of each job.
    mirror_starts = [moved(part[3], -part[0], -part[0]) for part in profiles]
    ends = moved(joint_pairs(mirror_starts), total, total)
    return (total, _least_peak(profiles, starts, ends), starts, ends)


def _least_peak(profiles, starts, ends):
    """The least capacity that leads to the lowest usage, through the rest of each job, and to the end.

    It is best for each job to be at its lowest while another one goes through its peak.
    """
    lowest = starts[-1][1]
    peaks = [part[1] + lowest - part[2][-1][1] for part in profiles]
    return max([starts[-1][0], ends[-1][0], *peaks])
