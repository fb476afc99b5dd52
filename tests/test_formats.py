"""Promises 15.1 to 15.5: text formats."""

import random

from roomprofile.barriers.find import find_barrier, find_floor
from roomprofile.decisions.certificates import certificate, least_certificate
from roomprofile.errors import InvalidJob, InvalidPaper, InvalidProfile, ParseError
from roomprofile.exchange.compare import separation
from roomprofile.jobs.jobs import is_job
from roomprofile.library.library import is_definition
from roomprofile.plans.best import best_plan
from roomprofile.profiles.profiles import is_profile, profile
from roomprofile.text.formats import (
    definition_text, job_text, paper_text, parse_definition, parse_job, parse_paper, parse_profile, profile_text,
)
from tests.changes import changes_of
from tests.checks import Checks
from tests.great import GREAT_JOBS, MOST
from tests.reference import random_jobs, random_profile, reversed_profile
from tests.reference_formats import (
    is_paper_by_words, job_text_by_words, paper_text_by_words, profile_text_by_words, random_paper, text_changes,
)
from tests.reference_library import random_definition
from tests.reference_plans import random_plan
from tests.test_library import DEFINITIONS, NO_DEFINITIONS
from tests.values import A, B, C, D, EMPTY_HUGE, HUGE, INTEGERS, NO_JOBS, P, STRANGE, TUPLES, WIDE, nested
from tests.wrong_valleys import HUGE_NUMBER, NO_PROFILES, PROFILES, stairs

PARSERS = (parse_job, parse_definition, parse_profile, parse_paper)
NO_TEXTS = (
    '', ' ', '-', '+', '+5', '-0', '00', '01', '-01', '5 ', ' 5', '5\n', '\n5', '5.0', '5e3', '0x5', '5_000', '--5', '1-', '- 5', '\u0663',
    '\u00b2', '\uff15', '\ud800', 'None', 'True', 'NONE', '()()', ')', '((', '(()', '())', '( )', '(5 )', '( 5)', '(5  6)', '(5,6)',
    '(5, 6)', '5 6', 'a b', '(a\tb)', '[5]', '(', 'seq', 'seq(', 'seq)', 'seq()5', 'seq( )', 'seq(5 )', 'seq( 5)', 'seq(5,6)',
    'seq(5,  6)', 'seq(5 , 6)', 'seq(5, )', 'seq(, 5)', 'seq(,)', 'seq (5)', 'Seq(5)', 'seq[5]', 'seq(5))', '(seq(5))', 'seq(5, 6',
    'seq(true)', 'seq(5)seq(5)', 'sequence(5)', 'sq(5)', '(5)seq', "'seq'(5)", 'seq(-0)', 'seq(05)', 'seq(+5)', 'seq(5-)',
    'repeat()', 'repeat(2)', 'repeat(2, )', 'repeat(2,5)', 'repeat(2, 5, 5)', 'repeat(-1, 5)', 'repeat(02, 5)', 'repeat(5, seq)',
    'repeat(seq(), 5)', 'repeat(, 5)', 'copies(-0, 5)', 'copies(2 5)', 'copies(2, 5', 'copies 2, 5', 'hole()', 'use()', 'use(5)',
    'use(Work)', 'use( a)', 'use(a )', 'use(abcdefghi)', 'use(a, b)', 'use(use(a))', 'use', 'use(a)b', 'step()', '9' * 5000, '-' + '9' * 10 ** 5,
    'seq(' * 10 ** 5, '(' * 10 ** 5, 'a' * 10 ** 6, 'seq(' + '5, ' * 10 ** 5, 'use(' + 'a' * 10 ** 6 + ')',
)


class JobsTest(Checks):
    def test_examples(self):
        self.assert_same(job_text(('par', (A, ('copies', 2, 4)))), 'par(seq(5, -3), copies(2, 4))')
        self.assert_same(parse_job('repeat(1000000, seq(2, -3))'), ('repeat', 1000000, ('seq', (2, -3))))
        self.assertRaises(ParseError, parse_job, 'seq(5,-3)')
        self.assert_same(definition_text(('copies', 2, ('use', 'work'))), 'copies(2, use(work))')
        self.assert_same(parse_definition('par(use(work), 7)'), ('par', (('use', 'work'), 7)))

    def test_jobs(self):
        for job in random_jobs(291, 300, 12, levels=6) + list(GREAT_JOBS) + [0, -MOST, MOST, EMPTY_HUGE, HUGE, nested('par', 12, 5),
                                                                        ('seq', (1,) * 399), ('seq', ()), ('copies', 10 ** 30, 1)]:
            for write, read in ((job_text, parse_job), (definition_text, parse_definition)):
                text = write(job)
                self.assert_same(text, job_text_by_words(job))
                self.assert_same(read(text), job)

    def test_definitions(self):
        source = random.Random(292)
        for definition in [random_definition(source, ['a', 'work', 'abcdefgh']) for _ in range(300)] + list(DEFINITIONS):
            text = definition_text(definition)
            self.assert_same(text, job_text_by_words(definition))
            self.assert_same(parse_definition(text), definition)
            if 'use' in text:
                self.assert_raises_only(ParseError, parse_job, text)
                self.assert_raises_only(InvalidJob, job_text, definition)

    def test_texts_with_one_sign_changed(self):
        source = random.Random(293)
        found = {True: 0, False: 0}
        texts = [job_text(job) for job in random_jobs(294, 40, 5)] + [job_text(C), job_text(P), '-10', 'use(ab)']
        for text in texts + [definition_text(random_definition(source, ['a', 'bc'], 3, 2)) for _ in range(40)]:
            for other in text_changes(text):
                for read, good in ((parse_job, is_job), (parse_definition, is_definition)):
                    try:
                        value = read(other)
                    except ParseError:
                        found[False] += 1
                        continue
                    self.assertTrue(good(value))
                    self.assert_same(job_text_by_words(value), other)
                    found[True] += 1
        self.assertGreater(min(found.values()), 500)

    def test_values_of_texts_that_are_too_great(self):
        for value, good in (
            (MOST, True), (MOST + 1, False), (-MOST, True), (-MOST - 1, False), (('repeat', MOST, 1), True), (('repeat', MOST + 1, 1), False),
            (('repeat', MOST + 1, ('seq', ())), False), (('repeat', MOST, ('seq', (1, 1))), False), (('seq', (1,) * 399), True),
            (('seq', (1,) * 400), False), (nested('par', 12, 5), True), (nested('par', 13, 5), False), (nested('seq', 12, ('seq', ())), True),
            (nested('seq', 13, ('seq', ())), False), (('repeat', -1, 5), False), (10 ** 61, False), (('seq', (10 ** 70 - 1,)), False),
        ):
            text = job_text_by_words(value)
            for read in (parse_job, parse_definition):
                if good:
                    self.assert_same(read(text), value)
                else:
                    self.assert_raises_only(ParseError, read, text)
        for value, good in ((nested('par', 12, ('use', 'a')), True), (nested('par', 13, ('use', 'a')), False), (('use', 'abcdefgh'), True),
                            (('use', 'abcdefghi'), False), (('seq', (('use', 'a'),) * 399), True), (('seq', (('use', 'a'),) * 400), False)):
            if good:
                self.assert_same(parse_definition(job_text_by_words(value)), value)
            else:
                self.assert_raises_only(ParseError, parse_definition, job_text_by_words(value))

    def test_wrong_values(self):
        for value in NO_JOBS:
            self.assert_raises_only(InvalidJob, job_text, value)
        for value in NO_DEFINITIONS:
            self.assert_raises_only(InvalidJob, definition_text, value)
        for function in (job_text, definition_text):
            self.assertRaises(InvalidJob, function, WIDE)


class ProfilesTest(Checks):
    def test_examples(self):
        self.assert_same(profile_text((3, 4, ((0, 0), (3, -1)), ((3, 1), (4, -1)))), 'net 3, peak 4, start 0:0 3:-1, end 3:1 4:-1')
        self.assertRaises(ParseError, parse_profile, 'net 0, peak 5, start 0:0 6:-1, end 0:-1')

    def test_profiles(self):
        source = random.Random(295)
        known = [random_profile(source) for _ in range(200)]
        known += [reversed_profile(one) for one in known] + [profile(job) for job in GREAT_JOBS]
        known += [one for one in PROFILES if HUGE_NUMBER not in one]
        for one in known:
            text = profile_text(one)
            self.assert_same(text, profile_text_by_words(one))
            self.assert_same(parse_profile(text), one)

    def test_texts_with_one_sign_changed(self):
        source = random.Random(296)
        found = {True: 0, False: 0}
        for one in [random_profile(source, 3) for _ in range(60)] + [profile(C), profile(5), (0, 0, ((0, 0),), ((0, 0),))]:
            for other in text_changes(profile_text(one)):
                try:
                    value = parse_profile(other)
                except ParseError:
                    found[False] += 1
                    continue
                self.assertTrue(is_profile(value))
                self.assert_same(profile_text_by_words(value), other)
                found[True] += 1
        self.assertGreater(min(found.values()), 100)

    def test_300_and_301_digits(self):
        for number, good in ((10 ** 300 - 1, True), (10 ** 300, False)):
            low = -number
            for one in ((0, number, ((0, 0),), ((0, 0),)), (number, number, ((0, 0),), ((number, 0),)),
                        (low, 0, ((0, low),), ((low, low),)), (0, number, ((0, 0), (number, -1)), ((0, -1),)),
                        (0, 0, ((0, low),), ((0, low),)), (low, 0, ((0, low - 0),), ((low, low),)),
                        (0, number, ((0, -1),), ((0, 0), (number, -1)))):
                self.assertTrue(is_profile(one))
                text = profile_text_by_words(one)
                if good:
                    self.assert_same(profile_text(one), text)
                    self.assert_same(parse_profile(text), one)
                else:
                    self.assert_raises_only(InvalidProfile, profile_text, one)
                    self.assert_raises_only(ParseError, parse_profile, text)
        for one in PROFILES:
            if HUGE_NUMBER in one:
                self.assert_raises_only(InvalidProfile, profile_text, one)

    def test_400_and_401_pairs(self):
        one = (-399, 399, stairs(400), ((-399, -399),))
        self.assert_same(parse_profile(profile_text(one)), one)
        self.assert_raises_only(ParseError, parse_profile, profile_text_by_words((-400, 400, stairs(401), ((-400, -400),))))

    def test_wrong_values(self):
        for value in NO_PROFILES:
            self.assert_raises_only(InvalidProfile, profile_text, value)
        for text in NO_TEXTS + (
            'net 0, peak 0, start 0:0, end', 'net 0, peak 0, start , end 0:0', 'net 0, peak 0, start 0:0, end 0:0 ', 'net 0, peak 0, start 0:0',
            'net 0 peak 0 start 0:0 end 0:0', 'net 0,  peak 0, start 0:0, end 0:0', 'net 0, peak 0, start 0 :0, end 0:0', 'net 0',
            'net 0, peak 0, start 0:0  1:-1, end 0:-1', 'net 0, peak 1, start 0:0,1:-1, end 0:-1', ' net 0, peak 0, start 0:0, end 0:0',
            'net -0, peak 0, start 0:0, end 0:0', 'net 0, peak 00, start 0:0, end 0:0', 'net 0, peak 0, start 0:0, end 0:0, end 0:0',
            'Net 0, peak 0, start 0:0, end 0:0', 'net 0, peak -1, start 0:0, end 0:0', 'net 0, peak 0, start 0:1, end 0:1',
        ):
            self.assert_raises_only(ParseError, parse_profile, text)
        self.assert_same(parse_profile('net 0, peak 0, start 0:0, end 0:0'), (0, 0, ((0, 0),), ((0, 0),)))


class PapersTest(Checks):
    def test_examples(self):
        self.assert_same(paper_text(('par', (('step',), ('step',)), (0, 1))), '(par ((step) (step)) (0 1))')
        self.assert_same(parse_paper('(seq () none -7)'), ('seq', (), None, -7))

    def test_drawn_papers(self):
        source = random.Random(297)
        for _ in range(500):
            paper = random_paper(source)
            text = paper_text(paper)
            self.assert_same(text, paper_text_by_words(paper))
            self.assert_same(parse_paper(text), paper)

    def test_plans_barriers_floors_certificates_separations_and_addresses(self):
        source = random.Random(298)
        jobs = random_jobs(299, 100, 9) + list(GREAT_JOBS)
        for job, other in zip(jobs, jobs[1:]):
            peak = profile(job)[1]
            papers = [best_plan(job), find_barrier(job, peak - 1), find_barrier(job, peak), find_floor(job, 3, -10 ** 60), separation(job, other),
                      separation(other, job), certificate(job, peak), certificate(job, peak - 1), least_certificate(job), profile(job)[2], ((0, 0), ())]
            if len(str(job)) < 300:
                papers.append(random_plan(source, job))
            for paper in papers:
                self.assert_same(parse_paper(paper_text(paper)), paper)

    def test_texts_with_one_sign_changed(self):
        source = random.Random(300)
        found = {True: 0, False: 0}
        for _ in range(60):
            for other in text_changes(paper_text(random_paper(source, 3)), source, 25):
                try:
                    value = parse_paper(other)
                except ParseError:
                    found[False] += 1
                    continue
                self.assertTrue(is_paper_by_words(value))
                self.assert_same(paper_text_by_words(value), other)
                found[True] += 1
        self.assertGreater(min(found.values()), 500)

    def test_limits(self):
        def tuples(levels, core):
            for _ in range(levels):
                core = (core,)
            return core
        for value, good in (
            (10 ** 61 - 1, True), (10 ** 61, False), (1 - 10 ** 61, True), (-10 ** 61, False), ('abcdefgh', True), ('abcdefghi', False),
            ('a', True), (tuples(59, 5), True), (tuples(60, 5), False), (tuples(59, ()), True), (tuples(60, ()), False), (tuples(59, None), True),
            (tuples(60, 'a'), False), ((1, tuples(58, 'a'), 2), True), ((1, tuples(59, 'a'), 2), False), (tuples(200, ()), False),
            ((1,) * 10 ** 4, True), (('nonea', 'no'), True), ((10 ** 61,), False),
        ):
            self.assertIs(is_paper_by_words(value), good)
            text = paper_text_by_words(value)
            if good:
                self.assert_same(paper_text(value), text)
                self.assert_same(parse_paper(text), value)
            else:
                self.assert_raises_only(InvalidPaper, paper_text, value)
                self.assert_raises_only(ParseError, parse_paper, text)

    def test_the_word_none(self):
        for value in ('none', ('none',), ('a', ('none', 5))):
            self.assert_raises_only(InvalidPaper, paper_text, value)
        self.assert_same([parse_paper('none'), parse_paper('(none)'), parse_paper('nonee'), parse_paper('non')], [None, (None,), 'nonee', 'non'])
        self.assert_same([paper_text(None), paper_text((None,))], ['none', '(none)'])

    def test_values(self):
        for value in STRANGE + INTEGERS + TUPLES + NO_JOBS + (A, B, C, D, P, PROFILES[2], 'A', 'a b', '', ('',), (True,), ([],), {}, '\u00e4', ('\u0131',), 'a\n'):
            if is_paper_by_words(value):
                self.assert_same(parse_paper(paper_text(value)), value)
            else:
                self.assert_raises_only(InvalidPaper, paper_text, value)

    def test_values_that_are_wide_and_nested_too_deep(self):
        for core, levels in (((), 60), ((), 199), (5, 60), ('A', 59), (True, 40)):
            value = core
            for _ in range(levels):
                value = (value, value)
            self.assertRaises(InvalidPaper, paper_text, value)

    def test_one_part_changed(self):
        source = random.Random(301)
        for _ in range(40):
            for value in changes_of(random_paper(source, 2), words=('none', 'a')):
                if is_paper_by_words(value):
                    self.assert_same(paper_text(value), paper_text_by_words(value))
                else:
                    self.assert_raises_only(InvalidPaper, paper_text, value)


class TextsTest(Checks):
    def test_no_texts(self):
        papers = ('a', 'none', 'seq', 'seq()5'[:3], 'use')
        for index, text in enumerate(NO_TEXTS):
            with self.subTest(index=index):
                for read in PARSERS:
                    if read is not parse_paper or text not in papers:
                        self.assert_raises_only(ParseError, read, text)

    def test_values_that_are_no_strings(self):
        for value in STRANGE + INTEGERS + TUPLES + (A, 5, b'5', ['5'], ('5',), {'5': 5}, None, True, C, PROFILES[0]):
            if not isinstance(value, str):
                for read in PARSERS:
                    self.assert_raises_only(ParseError, read, value)
        for read in PARSERS:
            self.assertRaises(ParseError, read, WIDE)

    def test_strings_that_are_no_texts(self):
        for value in STRANGE:
            if isinstance(value, str) and value not in ('seq', '0'):
                for read in PARSERS:
                    self.assert_raises_only(ParseError, read, value)

    def test_different_values_have_different_texts(self):
        source = random.Random(302)
        for write, values in (
            (definition_text, [random_definition(source, ['a', 'b'], 2, 2) for _ in range(400)]),
            (paper_text, [random_paper(source, 2) for _ in range(400)]),
            (profile_text, [random_profile(source, 2) for _ in range(400)]),
        ):
            texts = {}
            for value in values:
                self.assertEqual(texts.setdefault(write(value), value), value)
            self.assertEqual(len(texts), len(set(map(repr, values))))
