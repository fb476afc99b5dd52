"""Promises 13.1 to 13.3: a library of named jobs."""

import random

from roomprofile.errors import InvalidJob, InvalidOperation, NameConflict, UnknownName
from roomprofile.jobs.jobs import is_job, node_count, step_count
from roomprofile.library.library import Library, is_definition
from roomprofile.profiles.many import copies_profile, repeat_profile
from roomprofile.profiles.profiles import profile
from tests.changes import changes_of
from tests.checks import Checks
from tests.great import GREAT_JOBS, falls
from tests.reference import profile_of, random_jobs, state_count
from tests.reference_keeper import attempt
from tests.reference_library import PlainLibrary, is_definition_by_words, random_definition, uses_in
from tests.reference_progress import levels_in, nodes_in, steps_in
from tests.test_keeper import NO_NAMES
from tests.values import A, B, C, EMPTY_HUGE, HUGE, INTEGERS, NO_JOBS, STRANGE, TUPLES, WIDE, nested

EMPTY = ('seq', ())
NAMES = ('a', 'b', 'c', 'd', 'work', 'zz')


def use(name):
    return ('use', name)


NO_DEFINITIONS = tuple(value for value in NO_JOBS if value != use('work')) + (
    'work', ['use', 'work'], ('use',), ('use', 'work', 'work'), ('use', ''), ('use', 'Work'), ('use', 'abcdefghi'), ('use', 5),
    ('use', None), ('use', True), ('use', ['work']), ('use', ('work',)), ('Use', 'work'), ('use', 'a b'), ('use', 'w1'),
    ('use', '\u00e4'), ('hole',), ('seq', (('use', ''),)), ('repeat', 2, ('use', 'A')), ('repeat', -1, use('a')),
    ('copies', True, use('a')), ('copies', 10 ** 30 + 1, use('a')), ('par', [use('a')]), nested('par', 13, use('a')),
    ('seq', (use('a'),) * 400), ('seq', (use('a'), ('repeat', 10 ** 30, ('seq', (1, 1))))), ('use', use('a')),
    ('seq', (use('a'), 10 ** 30 + 1)), ('seq', (use('a'), True)),
)
DEFINITIONS = (
    5, A, C, HUGE, EMPTY_HUGE, use('a'), use('abcdefgh'), use('none'), use('use'), use('seq'), ('seq', (use('a'), use('a'), 5)),
    ('repeat', 10 ** 30, use('a')), ('copies', 0, use('a')), nested('par', 12, use('a')), ('seq', (use('a'),) * 399),
    ('seq', (use('a'), ('repeat', 10 ** 30, 1))), ('repeat', 10 ** 30, ('copies', 10 ** 30, use('a'))),
)


def library_of(*rows):
    library = Library()
    library.define_all(rows)
    return library


class LibraryChecks(Checks):
    def assert_unknown(self, name, function, *arguments):
        self.assert_same(self.assert_raises_only(UnknownName, function, *arguments).name, name)

    def assert_like(self, library, plain):
        """The library says of itself what a plain one says; no profile is asked for."""
        self.assert_same(library.names(), plain.names())
        self.assertEqual((len(library), str(library)), (len(plain.rows), f'library with {len(plain.rows)} names'))
        for name, definition in plain.rows.items():
            self.assert_same(library.definition(name), definition)
            self.assert_same(library.uses(name), tuple(sorted(uses_in(definition))))
            self.assert_same(library.users(name), plain.users(name))
            self.assert_same(library.step_count(name), plain.step_count(name))
        self.assert_same(library.computed(), plain.made)


class DefinitionsTest(Checks):
    def test_any_value(self):
        for index, value in enumerate(DEFINITIONS):
            with self.subTest(index=index):
                self.assertIs(is_definition(value), True)
                self.assertTrue(is_definition_by_words(value))
        for index, value in enumerate(NO_DEFINITIONS + (WIDE,)):
            with self.subTest(index=index):
                self.assertIs(is_definition(value), False)
        for value in STRANGE + TUPLES:
            self.assertIs(is_definition(value), False)
        for value in INTEGERS:
            self.assertIs(is_definition(value), abs(value) <= 10 ** 30)

    def test_one_part_changed(self):
        source = random.Random(261)
        found = {True: 0, False: 0}
        for _ in range(80):
            definition = random_definition(source, ['a', 'work'])
            for other in changes_of(definition, words=('seq', 'use')):
                expected = is_definition_by_words(other)
                self.assertIs(is_definition(other), expected, other)
                found[expected] += 1
        self.assertGreater(min(found.values()), 500)


class ExamplesTest(LibraryChecks):
    def test_examples(self):
        library = Library()
        self.assertIsNone(library.define('work', A))
        self.assertIsNone(library.define('day', ('par', (use('work'), use('work')))))
        self.assert_same([library.profile('day'), library.computed(), library.users('work')],
                         [(4, 7, ((0, 0),), ((4, 4), (7, 0))), 2, ('day',)])
        library = library_of(('work', A), ('day', ('copies', 2, use('work'))))
        before = library.least_capacity('day')
        self.assertIsNone(library.redefine('work', ('seq', (4, -2))))
        self.assert_same([before, library.least_capacity('day'), library.computed()], [7, 6, 4])
        library = library_of(('work', A), ('idle', ('seq', (1, -1))), ('day', ('par', (use('work'), use('idle')))))
        self.assert_same([library.can_redefine('work', ('seq', (4, -2))), library.impact('idle', ('seq', (2, -2)))],
                         [True, ('idle',)])

    def test_new_libraries(self):
        library = Library()
        self.assert_same([library.names(), len(library), str(library), library.computed()], [(), 0, 'library with 0 names', 0])
        library.define('a', 5)
        self.assertEqual(str(library), 'library with 1 names')


class DrawnCallsTest(LibraryChecks):
    def drawn_call(self, source, plain):
        name = source.choice(NAMES)
        known = list(plain.rows) if source.random() < 0.95 else list(NAMES)
        kind = source.choice(['define', 'define', 'define_all', 'redefine', 'redefine', 'remove', 'undo', 'profile', 'profile',
                              'least_capacity', 'impact', 'can_redefine'])
        if kind == 'define_all':
            rows = []
            for other in source.sample(NAMES, source.randint(0, 2)):
                rows.append((other, random_definition(source, known, 2, 2)))
                known = known + [other]
            return (kind, tuple(rows))
        if kind in ('define', 'redefine', 'impact', 'can_redefine'):
            return (kind, name, random_definition(source, known, 3, 2))
        return (kind,) if kind == 'undo' else (kind, name)

    def is_small(self, plain, call):
        """Whether all meanings stay small enough to be found again and again."""
        rows = dict(plain.rows)
        rows.update(call[1] if call[0] == 'define_all' else [call[1:]] if len(call) == 3 else [])
        other = PlainLibrary()
        try:
            other.rows = rows
            return all(nodes_in(other.meaning(name)) <= 200 for name in rows)
        except (KeyError, RecursionError):
            return True

    def test_drawn_calls(self):
        source = random.Random(262)
        seen = {}
        for _ in range(60):
            library, plain = Library(), PlainLibrary()
            for _ in range(60):
                call = self.drawn_call(source, plain)
                if not self.is_small(plain, call):
                    continue
                expected = attempt(getattr(plain, call[0]), *call[1:])
                self.assert_same(attempt(getattr(library, call[0]), *call[1:])[1:], expected[1:])
                seen[(call[0], expected[0] == 'returned')] = seen.get((call[0], expected[0] == 'returned'), 0) + 1
                self.assert_like(library, plain)
            for name in plain.names():
                self.assert_same(library.profile(name), plain.profile(name))
                self.assert_same(library.expand(name), plain.meaning(name))
            self.assert_like(library, plain)
        self.assertGreater(min(seen.values()), 20, seen)

    def test_profiles_state_by_state(self):
        source = random.Random(263)
        checked = 0
        for _ in range(200):
            library, plain = Library(), PlainLibrary()
            for name in NAMES[:4]:
                definition = random_definition(source, list(plain.rows), 3, 2)
                library.define(name, definition)
                plain.define(name, definition)
            for name in NAMES[:4]:
                if steps_in(plain.meaning(name)) <= 14 and state_count(plain.meaning(name)) <= 200:
                    checked += 1
                    self.assert_same(library.profile(name), profile_of(plain.meaning(name)))
        self.assertGreater(checked, 300)

    def test_impact_and_redefine(self):
        source = random.Random(264)
        found = {True: 0, False: 0}
        for _ in range(150):
            plain = PlainLibrary()
            for name in NAMES[:4]:
                plain.define(name, random_definition(source, list(plain.rows), 2, 1))
            library = library_of(*plain.rows.items())
            source.choice([lambda: None, lambda: library.profile('c'), lambda: library.profile('d')])()
            name, definition = source.choice(NAMES[:4]), random_definition(source, ['a', 'b'], 2, 2)
            impact = attempt(library.impact, name, definition)
            can = attempt(library.can_redefine, name, definition)
            before = {other: profile(plain.meaning(other)) for other in NAMES[:4]}
            made = library.computed()
            outcome = attempt(library.redefine, name, definition)
            if outcome[0] != 'returned':
                self.assertEqual((impact, can), (outcome, outcome))
                continue
            after = {other: library.profile(other) for other in NAMES[:4]}
            self.assert_same(impact[1], tuple(other for other in sorted(before) if before[other] != after[other]))
            self.assertGreaterEqual(library.computed(), made)
            if can[1]:
                for other in NAMES[:4]:
                    self.assertLessEqual(after[other][1], before[other][1])
            found[can[1]] += 1
        self.assertGreater(min(found.values()), 20)


class KeptProfilesTest(LibraryChecks):
    def chain(self):
        return library_of(('a', A), ('b', ('seq', (use('a'), use('a')))), ('c', ('par', (use('b'), 1))), ('d', use('c')), ('e', B))

    def test_used_profiles_are_kept(self):
        library = self.chain()
        self.assertEqual(library.computed(), 0)
        library.profile('b')
        self.assertEqual(library.computed(), 2)
        library.least_capacity('d')
        self.assertEqual(library.computed(), 4)
        for name in ('a', 'b', 'c', 'd'):
            library.profile(name)
            library.least_capacity(name)
        self.assertEqual(library.computed(), 4)
        library.step_count('e')
        library.expand('e')
        self.assertEqual(library.computed(), 4)

    def test_redefining_drops_the_name_and_its_users(self):
        library = self.chain()
        library.profile('d')
        library.profile('e')
        self.assertEqual(library.computed(), 5)
        library.redefine('b', library.definition('b'))
        library.profile('a')
        library.profile('e')
        self.assertEqual(library.computed(), 5)
        library.profile('c')
        self.assertEqual(library.computed(), 7)
        library.undo()
        library.profile('a')
        self.assertEqual(library.computed(), 7)
        library.profile('d')
        self.assertEqual(library.computed(), 10)

    def test_removing_and_defining_again(self):
        library = self.chain()
        library.profile('d')
        library.remove('d')
        library.profile('c')
        self.assertEqual(library.computed(), 4)
        library.undo()
        library.profile('d')
        self.assertEqual(library.computed(), 5)
        library.remove('d')
        library.define('d', use('c'))
        library.profile('d')
        self.assertEqual(library.computed(), 6)
        library.undo()
        library.undo()
        library.profile('d')
        self.assertEqual(library.computed(), 7)

    def test_undoing_a_definition_drops_its_own(self):
        library = library_of(('a', A))
        library.define_all((('b', use('a')), ('c', use('b'))))
        library.profile('c')
        self.assertEqual(library.computed(), 3)
        library.undo()
        library.define('c', use('a'))
        library.profile('c')
        library.profile('a')
        self.assertEqual(library.computed(), 4)
        library.undo()
        library.define_all((('b', use('a')), ('c', use('b'))))
        library.profile('c')
        self.assertEqual(library.computed(), 6)

    def test_what_keeps_nothing(self):
        library = self.chain()
        library.impact('a', B)
        library.can_redefine('a', B)
        library.expand('d')
        self.assertEqual(library.computed(), 0)
        library.profile('d')
        library.impact('a', B)
        library.can_redefine('b', 5)
        library.profile('d')
        self.assertEqual(library.computed(), 4)

    def test_a_call_that_raises_an_error_keeps_nothing(self):
        first, second = long_valleys()
        library = library_of(('a', first), ('b', second), ('c', ('seq', (use('a'), use('b'), *climb(398), *climb(399)))))
        for _ in range(2):
            self.assert_too_many(400, library.profile, 'c')
            self.assertEqual(library.computed(), 0)
        library.profile('a')
        self.assertEqual(library.computed(), 1)
        self.assert_too_many(400, library.least_capacity, 'c')
        self.assertEqual(library.computed(), 1)
        library.profile('b')
        self.assertEqual(library.computed(), 2)


def climb(number):
    return (4 + 2 * number, -5 - 2 * number)


def long_valleys():
    """Two sequences with 199 climbs each, which have 399 pairs of start valleys together."""
    climbs = [4 + 2 * number for number in range(398)]
    return falls(climbs[:199]), falls(climbs[199:])


class GreatInputsTest(LibraryChecks):
    def test_meanings_with_many_nodes(self):
        library = library_of(('a', A), ('b', ('seq', (1, -2))))
        for before, name in zip('bcdefghijklmnopqrstuvwxy', 'cdefghijklmnopqrstuvwxyz'):
            library.define(name, ('seq', (('par', (use(before), use('a'))), ('copies', 2, use(before)), use('a'))))
        for name in 'bcdef':
            meaning = plain_meaning(library, name)
            if is_job(meaning):
                self.assert_same((library.expand(name), library.profile(name)), (meaning, profile(meaning)))
            else:
                self.assert_too_many(400 if nodes_in(meaning) > 400 else 13, library.expand, name)
        self.assert_too_many(400, library.expand, 'z')
        self.assertEqual(library.step_count('z'), 2 * 3 ** 24 + 2 * 2 * (3 ** 24 - 1) // 2)
        self.assertEqual(library.profile('z')[0], net_of_chain(24))

    def test_meanings_nested_deep(self):
        library = Library()
        library.define('aa', ('seq', (2, -3)))
        before = 'aa'
        for number in range(99):
            name = 'b' + 'abcdefghij'[number // 10] + 'abcdefghij'[number % 10]
            library.define(name, ('copies', 1, nested('par', 9, ('seq', (('repeat', 1, use(before)), 1)))))
            before = name
        self.assertEqual(library.step_count(before), 2 + 99)
        self.assert_same(library.profile(before), profile(('seq', (2, -3) + (1,) * 99)))
        self.assertEqual(library.computed(), 100)
        self.assert_too_many(400, library.expand, before)
        self.assert_too_many(13, library.expand, 'baa')
        self.assertEqual(library.users('aa'), library.names()[1:])

    def test_great_counts(self):
        library = library_of(('a', A), ('b', ('repeat', 10 ** 15, use('a'))), ('c', ('copies', 10 ** 14, use('b'))),
                             ('d', ('par', (use('c'), use('c'), use('b')))))
        inner = repeat_profile(10 ** 15, profile(A))
        self.assert_same(library.profile('c'), copies_profile(10 ** 14, inner))
        self.assertEqual(library.step_count('d'), 4 * 10 ** 29 + 2 * 10 ** 15)
        self.assert_same(library.expand('c'), ('copies', 10 ** 14, ('repeat', 10 ** 15, A)))
        self.assertEqual(library.step_count('c'), step_count(library.expand('c')))

    def test_great_jobs(self):
        for index, job in enumerate(GREAT_JOBS):
            library = library_of(('a', job), ('b', ('seq', (use('a'), ('repeat', 0, use('a'))))))
            self.assert_same(library.profile('b'), profile(job))
            self.assert_same(library.expand('a'), job)
            self.assertEqual(library.step_count('b'), step_count(job))


def plain_meaning(library, name):
    plain = PlainLibrary()
    plain.rows = {other: library.definition(other) for other in library.names()}
    return plain.meaning(name)


def net_of_chain(levels):
    total = -1
    for _ in range(levels):
        total = 3 * total + 2 * 2
    return total


class LimitsTest(LibraryChecks):
    def hundred(self):
        letters = 'abcdefghij'
        return [first + second for first in letters for second in letters]

    def test_100_and_101_names(self):
        library = Library()
        for name in self.hundred():
            library.define(name, 5)
        self.assertEqual((len(library), library.names()), (100, tuple(self.hundred())))
        self.assert_too_many(100, library.define, 'zz', 5)
        self.assert_raises_only(NameConflict, library.define, 'aa', None)
        self.assert_raises_only(InvalidJob, library.define, 'zz', None)
        self.assert_unknown('zz', library.define, 'zz', use('zz'))
        self.assert_too_many(10 ** 30, library.define, 'zz', ('repeat', 10 ** 30, ('seq', (use('aa'), use('aa')))))
        self.assert_too_many(100, library.define_all, (('zz', 5),))
        self.assertIsNone(library.define_all(()))
        library.redefine('aa', use('bb'))
        library.remove('cc')
        self.assert_too_many(100, library.define_all, (('cc', 5), ('zz', 5)))
        self.assertEqual(len(library), 99)
        library.define('zz', 5)
        self.assertIsNone(library_of(*[(name, 5) for name in self.hundred()]).redefine('aa', 7))
        self.assert_too_many(100, library_of, *[(name, 5) for name in self.hundred() + ['zz']])

    def test_names(self):
        for name in ('a', 'abcdefgh', 'zzzzzzzz', 'none', 'use', 'seq'):
            library = library_of((name, 5), ('other', use(name)))
            self.assertEqual(library.users(name), ('other',))
        library = library_of(('a', 5))
        for value in NO_NAMES:
            for function, more in ((library.define, (5,)), (library.define, (None,)), (library.redefine, (None,)), (library.remove, ()),
                                   (library.expand, ()), (library.impact, (None,)), (library.can_redefine, (None,)),
                                   (library.definition, ()), (library.uses, ()), (library.users, ()), (library.step_count, ()),
                                   (library.profile, ()), (library.least_capacity, ())):
                self.assert_unknown(value, function, value, *more)
            self.assert_unknown(value, library.define_all, (('z', 5), (value, None)))
        for function, more in ((library.redefine, (None,)), (library.remove, ()), (library.expand, ()), (library.impact, (None,)),
                               (library.can_redefine, (None,)), (library.definition, ()), (library.uses, ()), (library.users, ()),
                               (library.step_count, ()), (library.profile, ()), (library.least_capacity, ())):
            self.assert_unknown('b', function, 'b', *more)
        self.assertEqual((library.names(), library.computed()), (('a',), 0))
        self.assertRaises(UnknownName, library.profile, WIDE)

    def test_steps_of_meanings(self):
        library = library_of(('one', 1), ('two', ('seq', (1, 1))), ('all', ('repeat', 10 ** 30, use('one'))))
        self.assertEqual(library.step_count('all'), 10 ** 30)
        for definition in (('seq', (use('all'), 1)), ('par', (use('all'), use('one'))), ('repeat', 2, use('all')),
                           ('copies', 10 ** 30, use('two')), ('repeat', 0, ('copies', 10 ** 30, use('two'))),
                           ('seq', (('repeat', 0, ('seq', (use('all'), use('one')))),))):
            self.assert_too_many(10 ** 30, library.define, 'z', definition)
            self.assert_too_many(10 ** 30, library.define_all, (('y', 1), ('z', definition)))
            if 'two' not in uses_in(definition):
                self.assert_too_many(10 ** 30, library.redefine, 'two', definition)
        library.define('half', ('copies', 5 * 10 ** 29, use('two')))
        self.assertEqual(library.step_count('half'), 10 ** 30)
        self.assert_too_many(10 ** 30, library.redefine, 'one', ('seq', (1, 1)))
        self.assert_too_many(10 ** 30, library.impact, 'one', ('seq', (1, 1)))
        self.assert_too_many(10 ** 30, library.can_redefine, 'one', ('seq', (1, 1)))
        library.define('none', ('repeat', 0, use('all')))
        self.assert_too_many(10 ** 30, library.redefine, 'one', ('seq', (1, 1)))
        self.assertEqual((library.step_count('none'), library.definition('one')), (0, 1))
        library.redefine('one', EMPTY)
        self.assertEqual((library.step_count('all'), library.step_count('half')), (0, 10 ** 30))

    def test_steps_within_no_rounds(self):
        library = library_of(('one', 1), ('none', ('repeat', 0, ('copies', 10 ** 30, use('one')))), ('some', use('none')))
        self.assert_too_many(10 ** 30, library.redefine, 'one', ('seq', (1, 1)))
        self.assertEqual(library.step_count('some'), 0)
        library.redefine('none', ('repeat', 0, ('copies', 5 * 10 ** 29, use('one'))))
        library.redefine('one', ('seq', (1, 1)))

    def test_nodes_of_expanded_meanings(self):
        for many, good in ((199, True), (200, False)):
            library = library_of(('a', ('seq', (1,) * 199)), ('b', ('par', (use('a'), ('seq', (1,) * (many - 2)), 1))))
            meaning = plain_meaning(library, 'b')
            self.assertEqual(nodes_in(meaning), 400 if good else 401)
            if good:
                self.assert_same(library.expand('b'), meaning)
                self.assertEqual(node_count(library.expand('b')), 400)
            else:
                self.assert_too_many(400, library.expand, 'b')

    def test_levels_of_expanded_meanings(self):
        for levels, good in ((6, True), (7, False)):
            library = library_of(('a', nested('seq', 6, 5)), ('b', nested('par', levels, use('a'))), ('c', use('b')))
            meaning = plain_meaning(library, 'b')
            self.assertEqual(levels_in(meaning), 13 if good else 14)
            for name in ('b', 'c'):
                if good:
                    self.assert_same(library.expand(name), meaning)
                    self.assertTrue(is_job(meaning))
                else:
                    self.assert_too_many(13, library.expand, name)
        for core in (EMPTY, ('par', ()), ('seq', (EMPTY, EMPTY)), 5):
            for levels in (10, 11, 12, 13):
                job = nested('seq', levels, use('core'))
                if is_definition(job):
                    library = library_of(('core', core), ('a', job))
                    if levels_in(plain_meaning(library, 'a')) <= 13:
                        self.assert_same(library.expand('a'), nested('seq', levels, core))
                    else:
                        self.assert_too_many(13, library.expand, 'a')
        library = library_of(('a', ('seq', (1,) * 399)), ('b', nested('par', 12, use('a'))))
        self.assert_too_many(400, library.expand, 'b')
        library = library_of(('a', nested('par', 7, 5)), ('b', nested('par', 7, use('a'))), ('c', ('repeat', 0, use('b'))))
        self.assert_too_many(13, library.expand, 'c')

    def test_valleys_of_400_and_401_pairs(self):
        first, second = long_valleys()
        library = library_of(('a', first), ('b', second), ('all', ('seq', (use('a'), use('b'), *climb(398)))))
        self.assertEqual(len(library.profile('all')[2]), 400)
        more = ('seq', (use('a'), use('b'), *climb(398), *climb(399)))
        library.define('more', more)
        self.assert_too_many(400, library.profile, 'more')
        self.assert_too_many(400, library.least_capacity, 'more')
        library.define('user', ('repeat', 2, use('more')))
        self.assert_too_many(400, library.profile, 'user')
        # The whole has few valleys, but a part of the definition has too many.
        for definition in (('seq', (-10 ** 6, more)), ('repeat', 0, more), ('seq', (-10 ** 6, use('more'))), ('copies', 0, use('more'))):
            library.define('whole', definition)
            self.assert_too_many(400, library.profile, 'whole')
            library.undo()
        library.define('whole', ('seq', (-10 ** 6, ('seq', (use('a'), use('b'), *climb(398))))))
        self.assertLess(len(library.profile('whole')[2]), 10)
        self.assertEqual(library.step_count('user'), 2 * 800)

    def test_valleys_before_and_after_redefining(self):
        first, second = long_valleys()
        good = ('seq', (use('b'), *climb(398)))
        bad = ('seq', (use('b'), *climb(398), *climb(399)))
        rows = (('a', first), ('b', second), ('c', good), ('user', ('seq', (use('a'), use('c')))), ('other', use('b')))
        library = library_of(*rows)
        self.assertEqual(library.impact('c', good), ())
        self.assertIs(library.can_redefine('c', good), True)
        for function in (library.impact, library.can_redefine):
            # The name itself would have few enough pairs, but its user would not.
            self.assert_too_many(400, function, 'c', bad)
            self.assertEqual(function('other', bad), ('other',) if function == library.impact else False)
        library.redefine('c', bad)
        library.profile('c')
        self.assert_too_many(400, library.profile, 'user')
        for function in (library.impact, library.can_redefine):
            self.assert_too_many(400, function, 'c', good)
            self.assert_raises_only(InvalidOperation, function, 'c', use('user'))
            function('other', good)
        library.redefine('c', good)
        library.profile('user')


class WrongInputsTest(LibraryChecks):
    def test_definitions(self):
        library = library_of(('a', A), ('b', use('a')))
        for value in NO_DEFINITIONS:
            for name, function in (('z', library.define), ('a', library.redefine), ('b', library.impact), ('b', library.can_redefine)):
                self.assert_raises_only(InvalidJob, function, name, value)
            self.assert_same(self.assert_raises_only(NameConflict, library.define, 'b', value).name, 'b')
        self.assertRaises(InvalidJob, library.define, 'z', WIDE)
        self.assertEqual((library.names(), library.definition('a')), (('a', 'b'), A))

    def test_used_names(self):
        library = library_of(('a', A), ('m', use('a')))
        for definition, name in ((use('z'), 'z'), (('seq', (use('z'), use('q'), use('a'))), 'q'), (('repeat', 0, use('b')), 'b'),
                                 (('par', (use('abcdefgh'), use('b'))), 'abcdefgh'), (('seq', (use('n'), use('aa'))), 'aa')):
            self.assert_unknown(name, library.define, 'new', definition)
            self.assert_unknown(name, library.redefine, 'a', definition)
            self.assert_unknown(name, library.redefine, 'a', ('seq', (use('m'), definition)))
            self.assert_unknown(name, library.impact, 'm', definition)
            self.assert_unknown(name, library.can_redefine, 'm', definition)
            self.assert_unknown(name, library.define_all, (('y', 5), ('new', definition)))
        self.assert_unknown('new', library.define, 'new', use('new'))
        self.assert_unknown('y', library.define_all, (('x', use('y')), ('y', 5)))
        self.assertIsNone(library.define_all((('y', 5), ('x', use('y')))))

    def test_names_that_would_use_themselves(self):
        library = library_of(('a', A), ('b', use('a')), ('c', ('repeat', 0, use('b'))), ('d', 5))
        for name, definition in (('a', use('a')), ('a', use('b')), ('a', ('seq', (5, use('c')))), ('b', use('b')), ('b', use('c')),
                                 ('c', ('copies', 0, use('c'))), ('a', ('repeat', 10 ** 30, ('seq', (use('a'), use('c')))))):
            for function in (library.redefine, library.impact, library.can_redefine):
                self.assert_raises_only(InvalidOperation, function, name, definition)
        library.redefine('d', use('c'))
        self.assert_raises_only(InvalidOperation, library.redefine, 'a', use('d'))
        self.assertIsNone(library.redefine('b', 7))
        self.assertIsNone(library.redefine('a', use('b')))

    def test_removing(self):
        library = library_of(('a', A), ('b', use('a')), ('c', ('repeat', 0, use('b'))))
        for name in ('a', 'b'):
            self.assert_raises_only(InvalidOperation, library.remove, name)
        self.assertIsNone(library.remove('c'))
        self.assertIsNone(library.remove('b'))
        self.assertIsNone(library.remove('a'))
        self.assertTrue(library == Library())

    def test_rows(self):
        library = library_of(('a', A))
        for value in STRANGE + INTEGERS + TUPLES + ([('b', 5)], (['b', 5],), (('b', 5), ['c', 5]), (('b', 5, 5),), (('b',),), ('bc',),
                                                  (('b', 5), None), {'b': 5}, (('a', 5), ()), ((None, None), (0, 0, 0))):
            if value == () or value == (('', ''),) or (isinstance(value, tuple) and all(isinstance(row, tuple) and len(row) == 2 for row in value)):
                continue
            self.assert_raises_only(InvalidOperation, library.define_all, value)
        self.assert_raises_only(InvalidJob, library.define_all, (('b', None), ('b', 5)))
        self.assert_same(self.assert_raises_only(NameConflict, library.define_all, (('b', 5), ('b', None))).name, 'b')
        self.assert_unknown(0, library.define_all, ((0, 0),))
        self.assert_unknown(None, library.define_all, ((None, None),))
        self.assertEqual(library.names(), ('a',))
        library.undo()
        self.assert_raises_only(InvalidOperation, library.undo)

    def test_undo(self):
        library = Library()
        self.assert_raises_only(InvalidOperation, library.undo)
        self.assertIsNone(library.define_all(()))
        library.define('a', A)
        library.define_all(())
        library.undo()
        self.assertEqual(library.names(), ('a',))
        library.undo()
        self.assertEqual(library.names(), ())
        self.assertIsNone(library.undo())
        self.assert_raises_only(InvalidOperation, library.undo)
        library.define_all((('a', 5), ('b', use('a'))))
        library.redefine('a', 6)
        library.remove('b')
        self.assert_raises_only(UnknownName, library.remove, 'b')
        self.assert_raises_only(InvalidJob, library.redefine, 'a', None)
        library.undo()
        self.assertEqual((library.names(), library.definition('a')), (('a', 'b'), 6))
        library.undo()
        self.assertEqual(library.definition('a'), 5)
        library.undo()
        self.assertEqual(library.names(), ())
        self.assert_raises_only(InvalidOperation, library.undo)

    def test_equal_libraries(self):
        first, second = library_of(('a', A), ('b', use('a'))), library_of(('a', A))
        self.assertFalse(first == second)
        second.define('b', 5)
        self.assertFalse(first == second)
        second.redefine('b', use('a'))
        second.profile('b')
        self.assertTrue(first == second)
        self.assertFalse(first != second)
        self.assertFalse(library_of(('a', A), ('b', A)) == library_of(('b', A), ('c', A)))
        self.assertTrue(library_of(('a', A), ('b', B)) == library_of(('b', B), ('a', A)))
        self.assertFalse(library_of(('a', 5)) == library_of(('a', ('seq', (5,)))))
        for value in STRANGE + INTEGERS + TUPLES + (str(first), object()):
            self.assertIs(first == value, False)

    def test_random_jobs_as_definitions(self):
        for job in random_jobs(265, 200, 9):
            library = library_of(('a', job))
            self.assert_same([library.definition('a'), library.expand('a'), library.uses('a'), library.users('a')], [job, job, (), ()])
            self.assertEqual(library.step_count('a'), step_count(job))
