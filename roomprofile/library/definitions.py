"""Definitions: what is built like a job, where the name of another definition may stand for its meaning.

What a definition tells of its meaning follows from what is known of the meanings of the names that it uses.
"""

from roomprofile.errors import TooMany
from roomprofile.integers import is_integer
from roomprofile.jobs.jobs import MAX_COUNT
from roomprofile.profiles.basic import of_step
from roomprofile.profiles.composed import composed, multiplied
from roomprofile.profiles.forms import checked_profile


def used_names(definition):
    """The names that stand in the definition, in ascending order."""
    return tuple(sorted(set(_found_names(definition))))


def steps_of_meaning(definition, known):
    """The number of steps. Raises TooMany if the meaning, or a job within it, has more than a job can have."""
    if is_integer(definition):
        return 1
    if definition[0] == "use":
        return known[definition[1]]
    if definition[0] in ("seq", "par"):
        steps = sum([steps_of_meaning(part, known) for part in definition[1]])
    else:
        steps = definition[1] * steps_of_meaning(definition[2], known)
    if steps > MAX_COUNT:
        raise TooMany(MAX_COUNT)
    return steps


def profile_of_meaning(definition, known):
    """The profile. Raises TooMany if valleys, also those of a part, have too many pairs."""
    if is_integer(definition):
        return of_step(definition)
    if definition[0] == "use":
        return known[definition[1]]
    if definition[0] in ("seq", "par"):
        return checked_profile(composed(definition[0], [profile_of_meaning(part, known) for part in definition[1]]))
    inner = profile_of_meaning(definition[2], known)
    return checked_profile(multiplied(definition[0], definition[1], inner))


def extent_of_meaning(definition, known):
    """The pair of the number of nodes and of the levels of nesting."""
    if is_integer(definition):
        return (1, 1)
    if definition[0] == "use":
        return known[definition[1]]
    parts = definition[1] if definition[0] in ("seq", "par") else (definition[2],)
    pairs = [extent_of_meaning(part, known) for part in parts]
    return (1 + sum([pair[0] for pair in pairs]), 1 + max([pair[1] for pair in pairs], default=0))


def meaning_of(definition, known):
    """The meaning, as it is built."""
    if is_integer(definition):
        return definition
    if definition[0] == "use":
        return known[definition[1]]
    if definition[0] in ("seq", "par"):
        return (definition[0], tuple([meaning_of(part, known) for part in definition[1]]))
    return (definition[0], definition[1], meaning_of(definition[2], known))


def _found_names(definition):
    if is_integer(definition):
        return []
    if definition[0] == "use":
        return [definition[1]]
    if definition[0] in ("repeat", "copies"):
        return _found_names(definition[2])
    found = []
    for part in definition[1]:
        found.extend(_found_names(part))
    return found
