"""Definitions and a library of them, by the words of 13.1 to 13.3.

Of the program it uses the error classes, and `profile` for the profiles of meanings.
"""

from roomprofile import errors
from roomprofile.profiles.profiles import profile
from tests.reference import random_job
from tests.reference_contexts import is_at_most_by_words
from tests.reference_progress import is_job_by_words, most_steps, steps_in


def is_name_by_words(value):
    return value.__class__ is str and 1 <= len(value) <= 8 and all(letter in 'abcdefghijklmnopqrstuvwxyz' for letter in value)


def is_definition_by_words(value):
    """13.1, for values that are not too wide to go through."""
    known = without_uses(value)
    return known is not None and is_job_by_words(with_empty_uses(known))


def without_uses(value):
    """The value with None in the place of each use, or None if it is not built like a definition."""
    if value.__class__ is int:
        return value if abs(value) <= 10 ** 30 else None
    if value.__class__ is not tuple or len(value) not in (2, 3) or value[0].__class__ is not str:
        return None
    if len(value) == 2 and value[0] == 'use':
        return ('use',) if is_name_by_words(value[1]) else None
    if len(value) == 3 and value[0] in ('repeat', 'copies'):
        inner = without_uses(value[2])
        good = value[1].__class__ is int and 0 <= value[1] <= 10 ** 30 and inner is not None
        return (value[0], value[1], inner) if good else None
    if len(value) == 2 and value[0] in ('seq', 'par') and value[1].__class__ is tuple:
        parts = tuple(without_uses(part) for part in value[1])
        return None if None in parts else (value[0], parts)
    return None


def with_empty_uses(value):
    """A job with as many nodes, levels and steps: an empty seq in the place of each use."""
    if value.__class__ is int:
        return value
    if value == ('use',):
        return ('seq', ())
    if value[0] in ('seq', 'par'):
        return (value[0], tuple(map(with_empty_uses, value[1])))
    return (value[0], value[1], with_empty_uses(value[2]))


def uses_in(definition):
    if isinstance(definition, int):
        return set()
    if definition[0] == 'use':
        return {definition[1]}
    return set().union(*map(uses_in, definition[1] if definition[0] in ('seq', 'par') else definition[2:]))


def meaning_by_words(definition, definitions):
    if isinstance(definition, int):
        return definition
    if definition[0] == 'use':
        return meaning_by_words(definitions[definition[1]], definitions)
    if definition[0] in ('seq', 'par'):
        return (definition[0], tuple(meaning_by_words(part, definitions) for part in definition[1]))
    return (definition[0], definition[1], meaning_by_words(definition[2], definitions))


def random_definition(source, names, steps=4, levels=3):
    """A definition that uses some of the names, often with empty parts."""
    if names and source.random() < 0.4:
        return ('use', source.choice(names))
    if levels == 0 or source.random() < 0.3:
        return random_job(source, source.randint(0, steps), levels=2, largest=4)
    kind = source.choice(['seq', 'par', 'repeat', 'copies'])
    if kind in ('repeat', 'copies'):
        return (kind, source.randint(0, 3), random_definition(source, names, steps, levels - 1))
    return (kind, tuple(random_definition(source, names, 2, levels - 1) for _ in range(source.randint(0, 3))))


class PlainLibrary:
    """Definitions given to it are good ones; a tuple of rows consists of pairs."""

    def __init__(self):
        self.rows = {}
        self.kept = {}
        self.made = 0
        self.past = []

    def names(self):
        return tuple(sorted(self.rows))

    def meaning(self, name):
        return meaning_by_words(('use', name), self.rows)

    def reachable(self, name, rows=None):
        rows = self.rows if rows is None else rows
        found = set()
        for used in uses_in(rows[name]):
            found |= {used} | (self.reachable(used, rows) if used != name else set())
        return found

    def users(self, name):
        return tuple(other for other in self.names() if name in self.reachable(other))

    def check_defined(self, name):
        if not is_name_by_words(name) or name not in self.rows:
            raise errors.UnknownName(name)

    def check_meanings(self, names, rows):
        for name in names:
            if most_steps(meaning_by_words(rows[name], rows)) > 10 ** 30:
                raise errors.TooMany(10 ** 30)

    def check_uses(self, definition, rows):
        for used in sorted(uses_in(definition)):
            if used not in rows:
                raise errors.UnknownName(used)

    def profile(self, name):
        self.check_defined(name)
        if name not in self.kept:
            for used in sorted(uses_in(self.rows[name])):
                self.profile(used)
            self.kept[name] = profile(self.meaning(name))
            self.made += 1
        return self.kept[name]

    def least_capacity(self, name):
        return self.profile(name)[1]

    def change(self, rows, dropped):
        self.past.append((self.rows, dropped))
        self.rows = rows
        self.drop(dropped)

    def drop(self, names):
        for name in names:
            self.kept.pop(name, None)

    def rows_with(self, rows, name, definition):
        if not is_name_by_words(name):
            raise errors.UnknownName(name)
        if name in rows:
            raise errors.NameConflict(name)
        self.check_uses(definition, rows)
        rows = {**rows, name: definition}
        self.check_meanings([name], rows)
        if len(rows) == 101:
            raise errors.TooMany(100)
        return rows

    def define(self, name, definition):
        self.change(self.rows_with(self.rows, name, definition), [name])

    def define_all(self, pairs):
        rows = self.rows
        for name, definition in pairs:
            rows = self.rows_with(rows, name, definition)
        self.change(rows, [name for name, _ in pairs])

    def rows_redefined(self, name, definition):
        self.check_defined(name)
        self.check_uses(definition, self.rows)
        for used in uses_in(definition):
            if used == name or name in self.reachable(used):
                raise errors.InvalidOperation('')
        rows = {**self.rows, name: definition}
        self.check_meanings([name, *self.users(name)], rows)
        return rows

    def redefine(self, name, definition):
        self.change(self.rows_redefined(name, definition), [name, *self.users(name)])

    def impact(self, name, definition):
        rows = self.rows_redefined(name, definition)
        found = [other for other in self.names()
                 if profile(self.meaning(other)) != profile(meaning_by_words(rows[other], rows))]
        return tuple(found)

    def can_redefine(self, name, definition):
        rows = self.rows_redefined(name, definition)
        return is_at_most_by_words(profile(meaning_by_words(rows[name], rows)), profile(self.meaning(name)))

    def remove(self, name):
        self.check_defined(name)
        if self.users(name):
            raise errors.InvalidOperation('')
        self.change({other: row for other, row in self.rows.items() if other != name}, [name])

    def undo(self):
        if not self.past:
            raise errors.InvalidOperation('')
        self.rows, dropped = self.past.pop()
        self.drop(dropped)

    def step_count(self, name):
        self.check_defined(name)
        return steps_in(self.meaning(name))
