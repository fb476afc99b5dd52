"""The form of a profile: (net, peak, start valleys, end valleys)."""

from roomprofile.errors import InvalidProfile
from roomprofile.integers import is_integer
from roomprofile.valleys.valleys import checked_length, is_start_valleys, is_valleys

MAX_PROFILES = 400

NOTHING = (0, 0, ((0, 0),), ((0, 0),))


def has_profile_form(value):
    """Whether the value is a profile."""
    if not isinstance(value, tuple) or len(value) != 4:
        return False
    net, peak, start, end = value
    if not is_integer(net) or not is_integer(peak) or not is_start_valleys(start) or not is_valleys(end):
        return False
    if end[0][0] != net or end[0][1] > net or end[-1][1] != start[-1][1]:
        return False
    return peak >= max(0, net, start[-1][0], end[-1][0])


def check_profile(value):
    """Raises InvalidProfile unless the value is a profile."""
    if not has_profile_form(value):
        raise InvalidProfile("this is not a profile")


def check_profiles(profiles):
    """Raises InvalidProfile unless this is a tuple of at most 400 profiles."""
    if not isinstance(profiles, tuple) or len(profiles) > MAX_PROFILES:
        raise InvalidProfile("this is not a tuple of at most 400 profiles")
    for value in profiles:
        check_profile(value)


def checked_profile(profile):
    """The profile. Raises TooMany if its valleys have too many pairs."""
    net, peak, start, end = profile
    return (net, peak, checked_length(start), checked_length(end))
