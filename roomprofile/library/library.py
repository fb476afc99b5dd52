"""A library of named jobs."""

from roomprofile.errors import InvalidJob, InvalidOperation, NameConflict, TooMany, UnknownName
from roomprofile.exchange.compare import is_at_most
from roomprofile.jobs.jobs import MAX_DEPTH, MAX_NODES, sizes_of, steps_of_leaf
from roomprofile.library.definitions import (
    extent_of_meaning, meaning_of, profile_of_meaning, steps_of_meaning, used_names,
)
from roomprofile.names import is_name
from roomprofile.tuples import begins_with

MAX_NAMES = 100


def is_definition(value):
    """Whether the value is a definition."""
    return sizes_of(value, _steps_of_leaf) is not None


class Library:
    """Definitions under names, and the profiles of their meanings as far as they were asked for.

    `rows` has the row (definition, used names, steps of the meaning) of each name, and `kept` the kept profiles.
    Neither dict is ever changed: an operation makes a new one. `past` has a pair for each operation: the rows
    before it, and the names whose profiles it may change.
    """

    def __init__(self):
        self.rows = {}
        self.kept = {}
        self.made = 0
        self.past = []

    def names(self):
        """The defined names in ascending order."""
        return tuple(sorted(self.rows))

    def definition(self, name):
        """The definition of the name."""
        return self._row(name)[0]

    def uses(self, name):
        """The names that stand in the definition, in ascending order."""
        return self._row(name)[1]

    def users(self, name):
        """The names that use this one, directly or through others, in ascending order."""
        self._row(name)
        return tuple(sorted(_users(name, self.rows)))

    def step_count(self, name):
        """The number of steps of the meaning."""
        return self._row(name)[2]

    def profile(self, name):
        """The profile of the meaning, which is kept, like those that are computed for it."""
        self._row(name)
        known = _with_profiles([name], self.rows, self.kept)
        self.made += len(known) - len(self.kept)
        self.kept = known
        return known[name]

    def least_capacity(self, name):
        """The least capacity that the meaning fits."""
        return self.profile(name)[1]

    def computed(self):
        """How many profiles were computed and kept so far."""
        return self.made

    def define(self, name, definition):
        """Adds a name."""
        self._do(_defined(name, definition, self.rows), [name])

    def define_all(self, rows):
        """Adds the names of all these pairs (name, definition), or none."""
        if not isinstance(rows, tuple) or not all([isinstance(row, tuple) and len(row) == 2 for row in rows]):
            raise InvalidOperation("this is not a tuple of pairs of a name and a definition")
        changed = self.rows
        for name, definition in rows:
            changed = _defined(name, definition, changed)
        self._do(changed, [row[0] for row in rows])

    def redefine(self, name, definition):
        """Replaces the definition of the name."""
        rows, touched = self._redefined(name, definition)
        self._do(rows, touched)

    def remove(self, name):
        """Removes the name."""
        self._row(name)
        if _users(name, self.rows):
            raise InvalidOperation("another name uses this one")
        self._do({other: row for other, row in self.rows.items() if other != name}, [name])

    def undo(self):
        """Takes back the last operation that has not been taken back."""
        if not self.past:
            raise InvalidOperation("there is no operation to take back")
        self.rows, touched = self.past.pop()
        self.kept = _without(self.kept, touched)

    def expand(self, name):
        """The meaning of the name as a job."""
        self._row(name)
        order = _used_first([name], self.rows, {})
        extents = {}
        for other in order:
            extents[other] = extent_of_meaning(self.rows[other][0], extents)
        if extents[name][0] > MAX_NODES:
            raise TooMany(MAX_NODES)
        if extents[name][1] > MAX_DEPTH:
            raise TooMany(MAX_DEPTH)
        meanings = {}
        for other in order:
            meanings[other] = meaning_of(self.rows[other][0], meanings)
        return meanings[name]

    def impact(self, name, definition):
        """The names whose profile would change if the name had this definition, in ascending order."""
        before, after = self._profiles_around(name, definition)
        return tuple(sorted([other for other in before if before[other] != after[other]]))

    def can_redefine(self, name, definition):
        """Whether the profile of the name would be at most its profile now."""
        before, after = self._profiles_around(name, definition)
        return is_at_most(after[name], before[name])

    def __len__(self):
        return len(self.rows)

    def __str__(self):
        return f"library with {len(self.rows)} names"

    def __eq__(self, value):
        # The used names and the steps of the rows follow from the definitions.
        return isinstance(value, Library) and self.rows == value.rows

    def _row(self, name):
        _check_defined(name, self.rows)
        return self.rows[name]

    def _do(self, rows, touched):
        """Goes on with these rows, without the kept profiles of the touched names, also when this is undone."""
        self.past.append((self.rows, touched))
        self.rows = rows
        self.kept = _without(self.kept, touched)

    def _redefined(self, name, definition):
        """The rows after redefining the name, and the names whose profiles may change then."""
        _check_defined(name, self.rows)
        used = _checked_uses(definition, self.rows)
        touched = [name] + _users(name, self.rows)
        if any([other in touched for other in used]):
            raise InvalidOperation("the name would use itself")
        rows = {**self.rows, name: (definition, used, 0)}
        for other in touched:
            known = {inner: rows[inner][2] for inner in rows[other][1]}
            rows[other] = (rows[other][0], rows[other][1], steps_of_meaning(rows[other][0], known))
        return rows, touched

    def _profiles_around(self, name, definition):
        """The profiles of the name and of its users, before and after redefining the name."""
        rows, touched = self._redefined(name, definition)
        before = _with_profiles(touched, self.rows, self.kept)
        after = _with_profiles(touched, rows, _without(self.kept, touched))
        return {other: before[other] for other in touched}, {other: after[other] for other in touched}


def _steps_of_leaf(value):
    if begins_with(value, "use", 2):
        return 0 if is_name(value[1]) else None
    return steps_of_leaf(value)


def _check_defined(name, rows):
    if not is_name(name) or name not in rows:
        raise UnknownName(name)


def _checked_uses(definition, rows):
    """The names that the definition uses. All of them have to be defined."""
    if not is_definition(definition):
        raise InvalidJob("this is not a definition")
    used = used_names(definition)
    for name in used:
        _check_defined(name, rows)
    return used


def _defined(name, definition, rows):
    """The rows with this name added."""
    if not is_name(name):
        raise UnknownName(name)
    if name in rows:
        raise NameConflict(name)
    used = _checked_uses(definition, rows)
    steps = steps_of_meaning(definition, {other: rows[other][2] for other in used})
    if len(rows) == MAX_NAMES:
        raise TooMany(MAX_NAMES)
    return {**rows, name: (definition, used, steps)}


def _used_first(names, rows, known):
    """These names and all that they use, each one after all that it uses, apart from known ones and theirs."""
    order = {}
    for name in names:
        _add_used_first(order, name, rows, known)
    return list(order)


def _add_used_first(order, name, rows, known):
    if name in known or name in order:
        return
    for other in rows[name][1]:
        _add_used_first(order, other, rows, known)
    order[name] = True


def _users(name, rows):
    """The names that use this one, each one after all of them that it uses."""
    found = [name]
    for other in _used_first(rows, rows, {}):
        if any([inner in found for inner in rows[other][1]]):
            found.append(other)
    return found[1:]


def _with_profiles(names, rows, kept):
    """The kept profiles, and those of these names and of all that they use."""
    known = dict(kept)
    for name in _used_first(names, rows, kept):
        known[name] = profile_of_meaning(rows[name][0], known)
    return known


def _without(kept, names):
    return {name: kept[name] for name in kept if name not in names}
