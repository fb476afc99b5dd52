"""Promise 16.1: a shell."""

import random

from roomprofile.barriers.judge import is_barrier
from roomprofile.decisions.certificates import is_certificate
from roomprofile.errors import (
    InvalidChoice, InvalidCommand, InvalidJob, InvalidNumber, InvalidOperation, NameConflict, NotEnough, ParseError, TooMany, UnknownName,
)
from roomprofile.keeper.keeper import Keeper
from roomprofile.library.library import Library
from roomprofile.profiles.profiles import profile
from roomprofile.text.formats import definition_text, job_text, parse_paper, paper_text
from roomprofile.text.shell import Shell
from tests.checks import Checks
from tests.great import GREAT_JOBS, falls
from tests.reference_formats import text_changes
from tests.reference_keeper import attempt
from tests.reference_library import random_definition
from tests.reference_shell import FORMS, KEEPER_FORMS, PlainShell
from tests.test_library import climb, long_valleys
from tests.values import A, B, C, INTEGERS, STRANGE, TUPLES, WIDE, nested

NAMES = ('a', 'b', 'cd', 'work')
READY = ('define a seq(5, -3)', 'define b par(use(a), 2)', 'define c copies(2, use(b))', 'keeper 20', 'admit a', 'admit b', 'grant a (0)')


def shell_of(*commands):
    shell = Shell()
    shell.run_all(commands)
    return shell


class ExamplesTest(Checks):
    def test_examples(self):
        shell = Shell()
        self.assert_same([len(shell), str(shell), shell.keeper()], [0, 'shell with 0 commands', None])
        self.assert_same(
            shell.run_all(('define a seq(5, -3)', 'profile a', 'keeper 5', 'admit a', 'grant a (0)', 'remaining a', 'finish 9', 'usage')),
            ('ok', 'net 2, peak 5, start 0:0, end 2:2 5:0', 'ok', 'ok', '5', '-3', '1', '2'))
        self.assert_raises_only(InvalidCommand, Shell().run, 'usage')

    def test_each_row(self):
        shell = Shell()
        for command, result in (
            ('names', '-'), ('define a seq(5, -3)', 'ok'), ('define work par(use(a), 2)', 'ok'), ('names', 'a,work'),
            ('redefine a seq(6, -3)', 'ok'), ('definition a', 'seq(6, -3)'), ('definition work', 'par(use(a), 2)'),
            ('revert', 'ok'), ('definition a', 'seq(5, -3)'), ('profile a', 'net 2, peak 5, start 0:0, end 2:2 5:0'),
            ('capacity a', '5'), ('steps work', '3'), ('replaces a work', 'yes'), ('replaces work a', 'no'), ('replaces a a', 'yes'),
            ('define down -3', 'ok'), ('certificate down 0', '(plan (step))'), ('certificate down -1', '(barrier (net))'), ('remove down', 'ok'),
            ('keeper 7', 'ok'), ('grantable', '-'), ('next', 'none'), ('usage', '0'), ('need', '0'), ('limit', '7'),
            ('admit a', 'ok'), ('admit work', 'ok'), ('need', '7'), ('grantable', 'a (0), work (0 0)'),
            ('refusal a (0)', 'none'), ('grant a (0)', '5'), ('remaining a', '-3'), ('remaining work', 'par(seq(5, -3), 2)'), ('usage', '5'),
            ('grantable', 'a ()'), ('grant a ()', '-3'), ('remaining a', 'seq()'), ('undo', 'ok'), ('usage', '5'),
            ('finish 1', '1'), ('finish 0', '0'), ('resize 9', 'ok'), ('limit', '9'), ('finish 400', '3'), ('finish 400', '0'),
            ('usage', '6'), ('next', 'none'), ('grantable', '-'), ('dismiss a', 'ok'), ('usage', '4'), ('need', '4'), ('keeper 0', 'ok'),
            ('usage', '0'), ('limit', '0'), ('names', 'a,work'),
        ):
            self.assert_same(shell.run(command), result)
        self.assertEqual(len(shell), 55)

    def test_refusals_and_certificates(self):
        shell = shell_of('define x seq(2, 3, -5)', 'define y use(x)', 'keeper 5', 'admit x', 'admit y', 'grant x (0)')
        barrier = parse_paper(shell.run('refusal y (0)'))
        self.assertIs(is_barrier(('par', (('seq', (3, -5)), ('seq', (3, -5)))), 1, barrier), True)
        self.assertEqual(self.assert_raises_only(NotEnough, shell.run, 'grant y (0)').least, 7)
        self.assert_same(shell.run_all(('grantable', 'next', 'refusal x (0)')), ('x (0)', 'x (0)', 'none'))
        for capacity in (-1, 4, 5, 10 ** 61 - 1):
            value = parse_paper(shell.run(f'certificate x {capacity}'))
            self.assertIs(is_certificate(('seq', (2, 3, -5)), capacity, value), True)


class DrawnCommandsTest(Checks):
    def drawn_command(self, source, plain):
        word = source.choice(list(FORMS) + list(KEEPER_FORMS) + ['define', 'define', 'grant', 'grant', 'grant', 'admit', 'admit'])
        if word in ('keeper', 'remove', 'dismiss', 'finish') and plain.keeper and source.random() < 0.7:
            word = 'grant'
        names = NAMES
        if source.random() < 0.8:
            names = (plain.keeper and word in KEEPER_FORMS and word != 'admit' and plain.keeper.names()) or plain.library.names() or NAMES
        texts = [word]
        for kind in FORMS[word]:
            if kind == 'N':
                texts.append(source.choice(names))
            elif kind == 'D':
                texts.append(definition_text(random_definition(source, list(plain.library.names()), 3, 2)))
            elif kind == 'I':
                texts.append(str(source.randint(-20, 60) if word == 'keeper' else source.randint(-1, 9)))
            else:
                known = plain.keeper.grantable() if plain.keeper else ()
                name, choice = source.choice(known) if known and source.random() < 0.8 else (texts[-1], source.choice([(), (0,), (1, 0), None, 'a']))
                texts[-1:] = [name, paper_text(choice)]
        return ' '.join(texts)

    def test_drawn_commands(self):
        source = random.Random(311)
        seen = {}
        for _ in range(60):
            shell, plain = Shell(), PlainShell()
            for number in range(60):
                command = self.drawn_command(source, plain)
                expected = attempt(plain.run, command)
                self.assert_same(attempt(shell.run, command), expected)
                self.assertEqual((len(shell), str(shell)), (number + 1, f'shell with {number + 1} commands'))
                self.assertTrue(shell.library() == plain.library and shell.keeper() == plain.keeper)
                self.assertEqual(shell.library().computed(), plain.library.computed())
                if shell.keeper() is not None:
                    self.assertEqual(shell.keeper().log(), plain.keeper.log())
                word = command.split(' ')[0]
                seen[(word, expected[0] == 'returned')] = seen.get((word, expected[0] == 'returned'), 0) + 1
        for word in FORMS:
            self.assertGreater(seen.get((word, True), 0), 3, word)
            if word not in ('names',):
                self.assertGreater(seen.get((word, False), 0), 1, word)

    def test_commands_with_one_sign_changed(self):
        source = random.Random(312)
        found = {}
        for command in (
            'define d par(use(a), -10)', 'redefine a seq(5, -3)', 'remove c', 'revert', 'names', 'definition b', 'profile c', 'capacity a',
            'steps b', 'replaces a b', 'certificate a 5', 'keeper 30', 'admit c', 'grant b (0 0)', 'refusal b (1)', 'grantable', 'next',
            'finish 10', 'remaining b', 'usage', 'need', 'limit', 'resize 40', 'dismiss b', 'undo',
        ):
            for other in text_changes(command, source, 30):
                shell, plain = shell_of(*READY), PlainShell()
                for ready in READY:
                    plain.run(ready)
                expected = attempt(plain.run, other)
                self.assert_same(attempt(shell.run, other), expected)
                self.assertEqual(len(shell), len(READY) + 1)
                found[expected[0]] = found.get(expected[0], 0) + 1
        self.assertGreater(found[InvalidCommand], 1000)
        self.assertGreater(found['returned'], 50)
        self.assertGreater(found[ParseError], 10)


class FormsTest(Checks):
    def test_commands_of_no_form(self):
        for keeper in ((), ('keeper 20', 'admit a')):
            for command in (
                '', ' ', 'Names', 'names ', ' names', 'names a', 'names\n', 'nam', 'define', 'define a', 'define  a 5', 'define A 5',
                'define abcdefghi 5', 'define a1 5', 'define 5 x(', 'define  x(', 'define\ta 5', 'remove', 'remove ', 'remove a ', 'remove  a',
                'remove a b', 'remove A', 'revert ', 'revert a', 'definition', 'definition ', 'definition a b', 'profile', 'profile  a',
                'capacity', 'capacity a a', 'steps ', 'replaces', 'replaces a', 'replaces a ', 'replaces  a', 'replaces a  a', 'replaces a a ',
                'replaces a a a', 'replaces a 5', 'certificate', 'certificate a', 'certificate a ', 'certificate a -0', 'certificate a 05',
                'certificate a +5', 'certificate a  5', 'certificate a 5 ', 'certificate a 5 5', 'certificate a (5)', 'certificate a none',
                'certificate a b', 'certificate 5 a', f'certificate a {10 ** 61}', f'certificate a {-10 ** 61}', 'certificate a 1e3', 'keeper',
                'keeper ', 'keeper 5 ', 'keeper  5', 'keeper a', 'keeper -0', f'keeper {10 ** 61}', f'keeper {-10 ** 61}', 'keeper 5 5',
                'keeper (5)', 'admit', 'admit ', 'admit A', 'admit a b', 'grant', 'grant a', 'grant a ', 'grant  (0)', 'grant a  (0)',
                'grant a (0) ', 'grant a (0', 'grant a (0 )', 'grant a (00)', 'grant a (0, 0)', 'grant a abcdefghi', 'grant A (0)',
                'refusal a', 'refusal a ', 'refusal a (0)x', 'refusal 5 (0)', 'grantable ', 'grantable a', 'next ', 'next a', 'finish', 'finish ',
                'finish -1', 'finish 401', 'finish 05', 'finish a', 'finish 9 9', 'finish (9)', 'finish none', f'finish {10 ** 61}',
                f'finish {10 ** 60}', 'remaining', 'remaining ', 'remaining A', 'usage ', 'usage a', 'need 5', 'limit -', 'resize', 'resize ',
                'resize a', 'resize 5 ', f'resize {10 ** 61}', 'dismiss', 'dismiss ', 'dismiss a b', 'undo ', 'undo a', 'define a', 'redefine a',
                'quit', 'help', 'define\u00a0a 5', 'def\u0131ne a 5', 'remove \u00e4', '\ud800', 'names' * 10 ** 5,
            ):
                shell = shell_of('define a 5', *keeper)
                before = len(shell)
                self.assert_raises_only(InvalidCommand, shell.run, command)
                self.assertEqual((len(shell), shell.library().names()), (before + 1, ('a',)))
                self.assertTrue(shell == shell_of('define a 5', *keeper))

    def test_commands_of_a_keeper_that_is_not_there(self):
        for command in ('admit a', 'admit zz', 'grant a ()', 'refusal a ()', 'grantable', 'next', 'finish 0', 'finish 9', 'remaining a', 'usage',
                        'need', 'limit', 'resize 5', 'resize -5', 'dismiss a', 'undo'):
            shell = shell_of('define a 5')
            self.assert_raises_only(InvalidCommand, shell.run, command)
            self.assert_raises_only(InvalidNumber, shell.run, 'keeper -1')
            self.assert_raises_only(InvalidCommand, shell.run, command)
            self.assertIsNone(shell.keeper())

    def test_definitions(self):
        shell = shell_of('define a 5')
        for text in ('', ' ', ' 5', '5 ', 'seq(5,6)', 'use(A)', 'use(a', '-0', str(10 ** 30 + 1), 'a', '5 5', 'seq(' * 50, 'hole()', '\n'):
            self.assert_raises_only(ParseError, shell.run, 'define b ' + text)
            self.assert_raises_only(ParseError, shell.run, 'define a ' + text)
            self.assert_raises_only(ParseError, shell.run, 'redefine a ' + text)
            self.assert_raises_only(ParseError, shell.run, 'redefine zz ' + text)
            self.assert_raises_only(InvalidCommand, shell.run, 'define B ' + text)
            self.assert_raises_only(InvalidCommand, shell.run, 'redefine  ' + text)
        self.assert_same(shell.run_all(('define b seq(use(a), par(1, 2))', 'definition b')), ('ok', 'seq(use(a), par(1, 2))'))

    def test_counts(self):
        shell = shell_of('define a repeat(1000, 1)', 'keeper 2000', 'admit a')
        self.assert_same(shell.run_all(('finish 400', 'finish 0', 'finish 399', 'finish 1', 'usage', 'finish 400')), ('400', '0', '399', '1', '800', '200'))
        for command in ('finish 401', 'finish -1'):
            self.assert_raises_only(InvalidCommand, shell.run, command)

    def test_capacities(self):
        shell = Shell()
        most = 10 ** 61 - 1
        shell.run('define a 5')
        self.assert_same(shell.run_all((f'keeper {most}', 'limit', f'resize {most}', f'certificate a {-most}')), ('ok', str(most), 'ok', '(barrier (net))'))
        before = shell.keeper()
        for command, value in (('keeper -1', -1), (f'keeper {-most}', -most), ('resize -1', -1)):
            self.assert_same(self.assert_raises_only(InvalidNumber, shell.run, command).value, value)
        self.assertIs(shell.keeper(), before)
        shell.run('keeper 3')
        self.assertIsNot(shell.keeper(), before)

    def test_choices(self):
        shell = shell_of('define a seq(5, -3)', 'keeper 5', 'admit a')
        for text in ('()', '(1)', '(0 0)', 'none', 'a', '5', '0', '(a)', '((0))', '(-1)', f'({10 ** 61 - 1})'):
            self.assert_raises_only(InvalidChoice, shell.run, 'grant a ' + text)
            self.assert_raises_only(InvalidChoice, shell.run, 'refusal a ' + text)
            self.assert_raises_only(UnknownName, shell.run, 'grant b ' + text)
        self.assert_same(shell.run('grant a (0)'), '5')


class ErrorsTest(Checks):
    def test_errors_of_the_calls(self):
        shell = shell_of('define a seq(5, -3)', 'define b use(a)', 'keeper 5', 'admit a')
        for command, error, attribute, value in (
            ('define a 5', NameConflict, 'name', 'a'), ('define c use(z)', UnknownName, 'name', 'z'), ('redefine z 5', UnknownName, 'name', 'z'),
            ('redefine a use(b)', InvalidOperation, None, None), ('remove a', InvalidOperation, None, None), ('remove z', UnknownName, 'name', 'z'),
            ('definition z', UnknownName, 'name', 'z'), ('profile z', UnknownName, 'name', 'z'), ('capacity z', UnknownName, 'name', 'z'),
            ('steps z', UnknownName, 'name', 'z'), ('replaces a z', UnknownName, 'name', 'z'), ('replaces z y', UnknownName, 'name', 'z'),
            ('certificate z 5', UnknownName, 'name', 'z'), ('admit z', UnknownName, 'name', 'z'), ('admit a', NameConflict, 'name', 'a'),
            ('admit b', NotEnough, 'least', 7), ('grant b (0)', UnknownName, 'name', 'b'), ('refusal b none', UnknownName, 'name', 'b'),
            ('remaining b', UnknownName, 'name', 'b'), ('dismiss b', UnknownName, 'name', 'b'), ('resize 4', NotEnough, 'least', 5),
            (f'define c repeat({10 ** 30}, use(a))', TooMany, 'limit', 10 ** 30),
        ):
            before = len(shell)
            raised = self.assert_raises_only(error, shell.run, command)
            if attribute is not None:
                self.assert_same(getattr(raised, attribute), value)
            self.assertEqual(len(shell), before + 1)
        self.assertEqual(shell.run_all(('names', 'usage', 'limit')), ('a,b', '0', '5'))
        fresh = Shell()
        self.assert_raises_only(InvalidOperation, fresh.run, 'revert')
        fresh.run('keeper 1')
        self.assert_raises_only(InvalidOperation, fresh.run, 'undo')

    def test_computed_profiles_stay(self):
        shell = shell_of('define a seq(5, -3)', 'define b use(a)')
        self.assert_raises_only(UnknownName, shell.run, 'replaces b z')
        self.assertEqual(shell.library().computed(), 2)
        shell.run('replaces a b')
        self.assertEqual(shell.library().computed(), 2)
        self.assert_raises_only(UnknownName, shell.run, 'replaces z b')
        first, second = long_valleys()
        shell = shell_of('define a ' + job_text(first), 'define b ' + job_text(second))
        library = shell.library()
        library.define('both', ('seq', (('use', 'a'), ('use', 'b'), *climb(398), *climb(399))))
        self.assertEqual(self.assert_raises_only(TooMany, shell.run, 'replaces a both').limit, 400)
        self.assertEqual(library.computed(), 1)
        self.assertEqual(self.assert_raises_only(TooMany, shell.run, 'profile both').limit, 400)
        self.assertEqual(library.computed(), 1)

    def test_expanded_meanings(self):
        shell = shell_of('define a ' + job_text(nested('seq', 7, 5)), 'define b ' + definition_text(nested('par', 7, ('use', 'a'))),
                         'define c ' + job_text(('seq', (1,) * 300)), 'define d par(use(c), use(c))', 'keeper 1000', 'define e use(c)')
        for command, limit in (('certificate b 5', 13), ('admit b', 13), ('certificate d 5', 400), ('admit d', 400)):
            self.assertEqual(self.assert_raises_only(TooMany, shell.run, command).limit, limit)
        self.assert_same(shell.run_all(('capacity d', 'steps d', 'admit e', 'remaining e')), ('600', '600', 'ok', job_text(('seq', (1,) * 300))))
        # The error of the expansion comes before those of the keeper.
        self.assertEqual(self.assert_raises_only(UnknownName, shell.run, 'admit z').name, 'z')
        shell.run('admit a')
        shell.run('redefine a ' + definition_text(nested('seq', 12, 5)))
        self.assertEqual(self.assert_raises_only(NameConflict, shell.run, 'admit a').name, 'a')
        shell.run('define f ' + definition_text(('seq', (('use', 'a'),))))
        self.assertEqual(self.assert_raises_only(TooMany, shell.run, 'admit f').limit, 13)

    def test_commands_that_are_no_strings(self):
        shell = Shell()
        values = [value for value in STRANGE + INTEGERS + TUPLES if not isinstance(value, str)] + [A, b'names', ['names'], ('names',), None, True]
        for number, value in enumerate(values):
            self.assert_raises_only(InvalidCommand, shell.run, value)
            self.assertEqual(len(shell), number + 1)
        self.assertRaises(InvalidCommand, shell.run, WIDE)

    def test_run_all(self):
        shell = Shell()
        self.assert_same(shell.run_all(()), ())
        for value in STRANGE + INTEGERS + (['names'], 'names', {'names': 1}, None, True):
            if not isinstance(value, tuple):
                self.assert_raises_only(InvalidCommand, shell.run_all, value)
        self.assertEqual((len(shell), str(shell)), (0, 'shell with 0 commands'))
        self.assert_raises_only(UnknownName, shell.run_all, ('define a 5', 'remove b', 'define c 6'))
        self.assertEqual((len(shell), shell.library().names()), (2, ('a',)))
        self.assert_raises_only(InvalidCommand, shell.run_all, ('define d 5', 5, 'define c 6'))
        self.assertEqual((len(shell), shell.library().names()), (4, ('a', 'd')))
        self.assertEqual(str(shell_of('names')), 'shell with 1 commands')


class ShellsTest(Checks):
    def test_the_library_and_the_keeper_themselves(self):
        shell = shell_of('define a 5')
        self.assertIsInstance(shell.library(), Library)
        self.assertIs(shell.library(), shell.library())
        shell.run('keeper 9')
        keeper = shell.keeper()
        self.assertIsInstance(keeper, Keeper)
        shell.run('admit a')
        self.assertIs(shell.keeper(), keeper)
        self.assertEqual(keeper.names(), ('a',))

    def test_equal_shells(self):
        first = shell_of('define a 5', 'keeper 5', 'admit a')
        self.assertTrue(first == shell_of('define a 5', 'keeper 9', 'admit a', 'names', 'resize 5'))
        self.assertFalse(first != shell_of('define a 5', 'keeper 5', 'admit a'))
        self.assertFalse(first == shell_of('define a 5', 'keeper 5'))
        self.assertFalse(first == shell_of('define a 5'))
        self.assertFalse(shell_of('define a 5') == first)
        self.assertFalse(first == shell_of('define a 5', 'define b 6', 'keeper 5', 'admit a'))
        self.assertTrue(Shell() == Shell())
        self.assertFalse(Shell() == shell_of('keeper 0'))
        self.assertFalse(shell_of('keeper 0') == Shell())
        self.assertTrue(Shell() == shell_of('names', 'define a 5', 'remove a'))
        for value in STRANGE + INTEGERS + TUPLES + (str(first), first.library(), first.keeper(), object()):
            self.assertIs(first == value, False)
            self.assertIs(Shell() == value, False)

    def test_great_jobs(self):
        for job in GREAT_JOBS:
            shell = shell_of('define a ' + job_text(job))
            known = profile(job)
            self.assert_same(shell.run('capacity a'), str(known[1]))
            self.assert_same(shell.run('definition a'), job_text(job))
            if len(job_text(job)) < 2000:
                value = parse_paper(shell.run(f'certificate a {known[1]}'))
                self.assertEqual((value[0], is_certificate(job, known[1], value)), ('plan', True))
                value = parse_paper(shell.run(f'certificate a {known[1] - 1}'))
                self.assertEqual((value[0], is_certificate(job, known[1] - 1, value)), ('barrier', True))

    def test_great_jobs_in_a_keeper(self):
        shell = shell_of(f'define a repeat({10 ** 29}, seq(5, -3))', 'define b copies(1000000, seq(4, -6))', 'define c par(use(a), use(b))',
                         f'keeper {10 ** 60}', 'admit c')
        need = int(shell.run('need'))
        self.assert_same(shell.run_all((f'resize {need}', 'finish 300', 'need')), ('ok', '300', str(need)))
        self.assertRaises(NotEnough, shell.run, f'resize {need - 1}')
        self.assertIs(shell.keeper() == Keeper(need), False)
        wide = shell_of('define a ' + job_text(('par', tuple(range(-199, 199)))), 'define b ' + job_text(falls(range(4, 100))), f'keeper {10 ** 9}', 'admit a')
        self.assert_same(wide.run_all(('finish 250', 'finish 400', 'usage', 'steps a', 'admit b', 'finish 400')), ('250', '148', '-199', '398', 'ok', '192'))

    def test_jobs_of_examples(self):
        shell = shell_of('define a ' + job_text(A), 'define b ' + job_text(B), 'define c par(use(a), use(b))')
        self.assert_same(shell.run_all(('replaces b a', 'replaces a b', 'capacity c')), ('yes', 'no', '4'))
        self.assertEqual(shell.library().expand('c'), C)
        self.assertRaises(InvalidJob, shell.library().define, 'd', None)
