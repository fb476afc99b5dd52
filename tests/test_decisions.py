"""Promises 9.1 to 9.3: certificates, and how many copies or rounds fit."""

import random

from roomprofile.barriers.find import find_barrier
from roomprofile.barriers.judge import is_barrier
from roomprofile.decisions.certificates import certificate, is_certificate, is_least_certificate, least_certificate
from roomprofile.decisions.limits import copies_that_fit, rounds_that_fit
from roomprofile.errors import InvalidJob
from roomprofile.jobs.jobs import mirror, net, step_count
from roomprofile.plans.best import best_plan
from roomprofile.plans.plans import is_plan, plan_peak, sequential_plan
from roomprofile.profiles.many import copies_profile, repeat_profile
from roomprofile.profiles.profiles import profile
from tests.changes import changes_of
from tests.checks import Checks
from tests.great import GREAT_JOBS, MOST
from tests.reference import Order, profile_of, random_jobs, uneven_jobs
from tests.reference_barriers import is_barrier_by_words
from tests.reference_plans import chain_by_words, random_plan, whole
from tests.values import A, B, C, D, EMPTY_HUGE, HUGE, INTEGERS, NO_JOBS, NO_NUMBERS, NUMBER_EDGES, P, STRANGE, TUPLES, WIDE

STEP = ('step',)
NET = ('net',)
WORDS = ('plan', 'barrier', 'step', 'net', 'seq', 'par', 'repeat', 'copies', 'join', 'part', 'front', 'high', 'mirror')
EMPTY_JOBS = (('seq', ()), ('par', ()), ('repeat', 0, 5), ('copies', 0, HUGE), EMPTY_HUGE)


def is_certificate_by_words(job, capacity, value):
    """9.1, for any value."""
    if value.__class__ is not tuple or len(value) != 2 or value[0].__class__ is not str:
        return False
    if value[0] == 'plan':
        segments = chain_by_words(job, value[1])
        return segments is not None and whole(segments)[1] <= capacity
    return value[0] == 'barrier' and is_barrier_by_words(job, capacity, value[1])


def is_least_by_words(job, value, peak):
    """9.2, for any value, with the least peak of the job."""
    if value.__class__ is not tuple or len(value) != 3 or value[0].__class__ is not int or value[0] != peak:
        return False
    segments = chain_by_words(job, value[1])
    return segments is not None and whole(segments)[1] == peak and is_barrier_by_words(job, peak - 1, value[2])


class CertificateTest(Checks):
    def assert_certificate(self, job, capacity, kind):
        value = certificate(job, capacity)
        self.assertEqual(value[0], kind)
        self.assertTrue(is_certificate_by_words(job, capacity, value))
        self.assertIs(is_certificate(job, capacity, value), True)

    def test_examples(self):
        self.assertEqual([certificate(A, 5)[0], certificate(A, 4)[0]], ['plan', 'barrier'])
        self.assertIs(is_certificate(A, 4, ('barrier', ('part', 0, NET))), True)
        self.assert_same([is_certificate(7, 7, ('plan', STEP)), is_certificate(7, 6, ('barrier', NET)),
                          is_certificate(7, 6, ('plan', STEP))], [True, True, False])
        self.assertEqual(least_certificate(P)[0], 10)

    def test_small_jobs_run_by_run(self):
        for job in random_jobs(181, 60, 6):
            order = Order(job)
            least = min(order.peak(run) for run in order.complete_runs())
            for capacity in range(-2, least + 3):
                self.assert_certificate(job, capacity, 'plan' if capacity >= least else 'barrier')

    def test_small_jobs_state_by_state(self):
        for job in random_jobs(182, 200, 8, levels=6) + uneven_jobs(194, 150):
            peak = profile_of(job)[1]
            for capacity in (-1, peak - 1, peak, peak + 1):
                self.assert_certificate(job, capacity, 'plan' if capacity >= peak else 'barrier')

    def test_great_jobs(self):
        for job in GREAT_JOBS:
            for turned in (job, mirror(job)):
                total, peak, _, _ = profile(turned)
                self.assert_certificate(turned, peak, 'plan')
                for capacity in (peak - 1, total - 1, -1, 1 - 10 ** 61):
                    self.assert_certificate(turned, capacity, 'barrier')
                self.assert_certificate(turned, 10 ** 61 - 1, 'plan')

    def test_certificates_of_any_origin(self):
        source = random.Random(183)
        for job in random_jobs(184, 100, 7):
            plan = random_plan(source, job)
            peak = whole(chain_by_words(job, plan))[1]
            for capacity in (peak - 1, peak, peak + 1):
                self.assertIs(is_certificate(job, capacity, ('plan', plan)), capacity >= peak)
                self.assertIs(is_certificate(job, capacity, ('barrier', plan)), False)
            least = profile(job)[1]
            barrier = find_barrier(job, least - 1)
            for capacity in (least - 2, least - 1, least, -5):
                expected = is_barrier_by_words(job, capacity, barrier)
                self.assertIs(is_certificate(job, capacity, ('barrier', barrier)), expected)
                self.assertIs(is_certificate(job, capacity, ('plan', barrier)), False)

    def test_one_part_changed(self):
        source = random.Random(185)
        found = {True: 0, False: 0}
        for job in random_jobs(186, 50, 5) + [A, C, P]:
            peak = profile(job)[1]
            for capacity, value in ((peak, ('plan', best_plan(job))), (peak + 3, ('plan', random_plan(source, job))),
                                    (peak - 1, ('barrier', find_barrier(job, peak - 1)))):
                for other in changes_of(value, words=WORDS):
                    expected = is_certificate_by_words(job, capacity, other)
                    self.assertIs(is_certificate(job, capacity, other), expected, (job, capacity, other))
                    found[expected] += 1
        self.assertGreater(min(found.values()), 100)

    def test_any_value(self):
        values = STRANGE + INTEGERS + TUPLES + (
            'plan', ('plan',), ('barrier',), ['plan', STEP], ('plan', STEP, None), ('barrier', NET, NET), ('Plan', STEP),
            (STEP, 'plan'), ('plan', None), ('barrier', None), (None, STEP), STEP, NET, ('plan', [STEP]), ('', NET),
        )
        for job in (7, A, C, ('seq', ())):
            for capacity in (-1, 20):
                for index, value in enumerate(values):
                    with self.subTest(index=index):
                        self.assertIs(is_certificate(job, capacity, value), False)
                self.assertIs(is_certificate(job, capacity, WIDE), False)
                self.assertIs(is_certificate(job, capacity, ('plan', WIDE)), False)
                self.assertIs(is_certificate(job, capacity, ('barrier', WIDE)), False)

    def test_wrong_inputs(self):
        for job in NO_JOBS:
            self.assert_raises_only(InvalidJob, certificate, job, None)
            self.assert_raises_only(InvalidJob, is_certificate, job, None, None)
            self.assert_raises_only(InvalidJob, least_certificate, job)
            self.assert_raises_only(InvalidJob, is_least_certificate, job, None)
            self.assert_raises_only(InvalidJob, is_least_certificate, job, (5, STEP, NET))
        for value in NO_NUMBERS:
            self.assert_invalid_number(value, certificate, C, value)
            self.assert_invalid_number(value, is_certificate, C, value, None)
            self.assert_invalid_number(value, is_certificate, C, value, ('barrier', NET))
        for value in NUMBER_EDGES:
            self.assert_certificate(C, value, 'plan' if value > 0 else 'barrier')


class LeastCertificateTest(Checks):
    def assert_least(self, job, peak):
        value = least_certificate(job)
        self.assertTrue(is_least_by_words(job, value, peak), (job, value))
        self.assertIs(is_least_certificate(job, value), True)

    def test_small_jobs(self):
        for job in random_jobs(187, 250, 8, levels=6) + uneven_jobs(195, 150):
            self.assert_least(job, profile_of(job)[1])
        for job in EMPTY_JOBS:
            self.assert_least(job, 0)
            self.assertEqual(least_certificate(job)[2], NET)

    def test_great_jobs(self):
        for job in GREAT_JOBS:
            for turned in (job, mirror(job)):
                self.assert_least(turned, profile(turned)[1])
        self.assert_least(('copies', MOST, MOST), 10 ** 60)

    def test_other_values(self):
        plan = sequential_plan(C)
        best = best_plan(C)
        barrier = find_barrier(C, 3)
        self.assertEqual((plan_peak(C, plan), plan_peak(C, best)), (5, 4))
        self.assert_yes([is_least_certificate(C, (4, best, barrier))])
        self.assert_no([is_least_certificate(C, value) for value in (
            (4, plan, barrier), (5, plan, barrier), (5, best, barrier), (3, best, barrier), (4, best, None), (5, plan, NET),
            (4, best, NET), (4, barrier, best), (4, best), (4, best, barrier, None), [4, best, barrier], ('4', best, barrier),
            (None, best, barrier), (4, None, barrier), (4, [], barrier), (4, best, [*barrier]), (4, STEP, barrier),
            (10 ** 70 - 1, best, barrier), (-1, best, NET), (-10 ** 69, best, NET), (4, barrier, barrier), (4, best, best),
            WIDE, (4, WIDE, barrier), (4, best, WIDE), (WIDE, best, barrier),
        )])
        self.assert_no([is_least_certificate(job, value) for job in (A, C, 5, ('seq', ())) for value in STRANGE + INTEGERS + TUPLES])
        self.assert_yes([is_least_certificate(1, (1, STEP, NET)), is_least_certificate(0, (0, STEP, NET))])
        self.assert_no([is_least_certificate(1, (True, STEP, NET)), is_least_certificate(0, (False, STEP, NET))])

    def test_one_part_changed(self):
        found = {True: 0, False: 0}
        for job in random_jobs(188, 50, 5) + [A, C, P]:
            peak = profile_of(job)[1]
            for other in changes_of(least_certificate(job), words=WORDS):
                expected = is_least_by_words(job, other, peak)
                self.assertIs(is_least_certificate(job, other), expected, (job, other))
                found[expected] += 1
        self.assertGreater(min(found.values()), 20)


class LimitsTest(Checks):
    def check_copies(self, job, capacity, most=MOST):
        """The result is right at its edges, by the profiles of so many copies."""
        result = copies_that_fit(job, capacity, most=most)
        known = profile(job)
        limit = min(most, MOST // max(1, step_count(job)))
        if result is None:
            return result
        least, greatest = result
        self.assertTrue(1 <= least <= greatest <= limit)
        for n, fits in ((least, True), (greatest, True), ((least + greatest) // 2, True), (least - 1, False)):
            if n > 0:
                self.assertEqual(copies_profile(n, known)[1] <= capacity, fits)
        if greatest < limit:
            self.assertGreater(copies_profile(greatest + 1, known)[1], capacity)
        return result

    def test_examples(self):
        self.assert_same([copies_that_fit(A, 7), copies_that_fit(('seq', (-3, 5, -4)), 0, most=10), copies_that_fit(3, 2)],
                         [(1, 2), (2, 10), None])
        self.assert_same([rounds_that_fit(A, 8), rounds_that_fit(('seq', (2, -3)), 2, most=10 ** 6), rounds_that_fit(3, 2)],
                         [(1, 2), (1, 1000000), None])

    def test_small_jobs_state_by_state(self):
        for job in random_jobs(189, 150, 3) + [('seq', (-3, 5, -4)), A, B, ('seq', (-1, 4, -6, 1)), ('seq', (6, -5, 4))]:
            many = 4 if len(Order(job).full) <= 3 else 3
            copies = [profile_of(('copies', n, job))[1] for n in range(1, many + 1)]
            rounds = [profile_of(('repeat', n, job))[1] for n in range(1, many + 1)]
            for capacity in range(-2, max(copies + rounds) + 2):
                for most in range(1, many + 1):
                    fits = [n for n, peak in enumerate(copies[:most], 1) if peak <= capacity]
                    expected = (fits[0], fits[-1]) if fits else None
                    self.assert_same(copies_that_fit(job, capacity, most=most), expected)
                    fits = [n for n, peak in enumerate(rounds[:most], 1) if peak <= capacity]
                    self.assert_same(rounds_that_fit(job, capacity, most=most), (1, fits[-1]) if fits else None)

    def test_counts_one_by_one(self):
        for job in random_jobs(190, 100, 8) + uneven_jobs(196, 200):
            known = profile(job)
            copies = [copies_profile(n, known)[1] for n in range(1, 31)]
            rounds = [repeat_profile(n, known)[1] for n in range(1, 31)]
            for capacity in (-1, 0, copies[0] - 1, copies[0], copies[7], copies[7] + 3, rounds[7], min(copies)):
                fits = [n for n, peak in enumerate(copies, 1) if peak <= capacity]
                self.assertEqual(fits, list(range(fits[0], fits[-1] + 1)) if fits else [])
                self.assert_same(copies_that_fit(job, capacity, most=30), (fits[0], fits[-1]) if fits else None)
                fits = [n for n, peak in enumerate(rounds, 1) if peak <= capacity]
                self.assert_same(rounds_that_fit(job, capacity, most=30), (1, fits[-1]) if fits else None)

    def test_great_counts(self):
        source = random.Random(191)
        for job in random_jobs(192, 100, 8) + uneven_jobs(197, 150) + list(GREAT_JOBS):
            limit = MOST // max(1, step_count(job))
            known = profile(job)
            for _ in range(4):
                n = source.randint(1, source.choice([10, 10 ** 6, limit]))
                if n > limit:
                    continue
                need = copies_profile(n, known)[1]
                least, greatest = self.check_copies(job, need)
                self.assertTrue(least <= n <= greatest)
                self.check_copies(job, need - 1)
                need = repeat_profile(n, known)[1]
                greatest = rounds_that_fit(job, need)[1]
                self.assertTrue(n <= greatest <= limit)
                self.assertLessEqual(repeat_profile(greatest, known)[1], need)
                self.assertTrue(greatest == limit or repeat_profile(greatest + 1, known)[1] > need)

    def test_more_copies_fit_where_fewer_do_not(self):
        job = ('seq', (-3, 5, -4))
        self.assert_same([copies_that_fit(job, capacity) for capacity in (-1, 0, 1, 2)],
                         [None, (2, MOST // 3), (2, MOST // 3), (1, MOST // 3)])
        for most, expected in ((1, None), (2, (2, 2)), (3, (2, 3)), (MOST // 3 - 1, (2, MOST // 3 - 1)),
                               (MOST // 3, (2, MOST // 3)), (MOST, (2, MOST // 3))):
            self.assert_same(copies_that_fit(job, 0, most=most), expected)
        # n copies need 10 ** 20 - n, as all others are at -1 when one goes up, and at last 2 * n.
        deep = ('seq', (-1, 10 ** 20, -10 ** 20, 3))
        one = 10 ** 20 // 3
        for capacity, expected in (
            (10 ** 20 - 1, (1, 10 ** 20 // 2 - 1)), (10 ** 20 - 2, (2, 10 ** 20 // 2 - 1)), (10 ** 20, (1, 10 ** 20 // 2)),
            (7 * 10 ** 19, (3 * 10 ** 19, 35 * 10 ** 18)), (2 * one + 1, (one, one)), (2 * one, None), (one, None),
        ):
            self.assert_same(self.check_copies(deep, capacity), expected)

    def test_both_ends_one_by_one(self):
        job = ('seq', (-3, 30, -30, 4))
        self.assertEqual([copies_profile(n, profile(job))[1] for n in (1, 2, 7, 8, 9, 30)], [27, 24, 9, 8, 9, 30])
        self.assert_same([copies_that_fit(job, capacity) for capacity in (0, 7, 8, 9, 10, 27)],
                         [None, None, (8, 8), (7, 9), (7, 10), (1, 27)])
        for steps in (job[1], (-3, 30, -26), (-2, 9, -12, 20, -15, 2), (4, -6, 9, -9, 3), (1, -1, 2, -3, 9, -8, 3)):
            for turned in (('seq', steps), mirror(('seq', steps))):
                known = profile(turned)
                peaks = [copies_profile(n, known)[1] for n in range(1, 13)]
                for capacity in range(-1, 40):
                    for most in range(1, 13):
                        fits = [n for n, peak in enumerate(peaks[:most], 1) if peak <= capacity]
                        expected = (fits[0], fits[-1]) if fits else None
                        self.assert_same(copies_that_fit(turned, capacity, most=most), expected)

    def test_rounds(self):
        for capacity, most, expected in ((4, MOST, None), (5, MOST, (1, 1)), (6, MOST, (1, 1)), (7, MOST, (1, 2)), (7, 1, (1, 1)),
                                         (7, 2, (1, 2)), (5 + 2 * 10 ** 20, MOST, (1, 10 ** 20 + 1)), (10 ** 60, MOST, (1, MOST // 2)),
                                         (10 ** 60, MOST // 2 - 1, (1, MOST // 2 - 1)), (10 ** 60, MOST // 2 + 1, (1, MOST // 2))):
            self.assert_same(rounds_that_fit(A, capacity, most=most), expected)
        self.assert_same([rounds_that_fit(('seq', (2, -3)), capacity) for capacity in (1, 2)], [None, (1, MOST // 2)])
        self.assert_same([rounds_that_fit(('seq', (2, -2)), capacity) for capacity in (1, 2)], [None, (1, MOST // 2)])

    def test_empty_jobs_have_all_counts(self):
        for job in EMPTY_JOBS:
            for function in (copies_that_fit, rounds_that_fit):
                self.assert_same([function(job, -1), function(job, 0)], [None, (1, MOST)])
                self.assert_same([function(job, 0, most=1), function(job, 0, most=MOST)], [(1, 1), (1, MOST)])

    def test_jobs_with_many_steps(self):
        for steps, expected in ((MOST, 1), (MOST // 2 + 1, 1), (MOST // 2, 2), (MOST // 3, 3)):
            for job in (('repeat', steps, -1), ('copies', steps, 0), ('repeat', steps, 0)):
                for function in (copies_that_fit, rounds_that_fit):
                    self.assert_same(function(job, 0), (1, expected))
                    self.assert_same(function(job, 0, most=1), (1, 1))
                    self.assert_same(function(job, -1), None)

    def test_negative_capacities_and_nets(self):
        for job in (5, -5, 0, A, B, C, D, P, ('seq', (-9, 3))):
            for function in (copies_that_fit, rounds_that_fit):
                for capacity in (-1, -5, 1 - 10 ** 61):
                    self.assertIsNone(function(job, capacity))
        self.assert_same([copies_that_fit(5, net(5) - 1), copies_that_fit(5, 5), copies_that_fit(5, 9)], [None, (1, 1), (1, 1)])
        self.assert_same([rounds_that_fit(5, 4), rounds_that_fit(5, 5), rounds_that_fit(5, 10 ** 61 - 1)], [None, (1, 1), (1, MOST)])
        self.assert_same([copies_that_fit(-5, 0), rounds_that_fit(-5, 0)], [(1, MOST)] * 2)

    def test_wrong_inputs(self):
        for function in (copies_that_fit, rounds_that_fit):
            for job in NO_JOBS:
                self.assert_raises_only(InvalidJob, function, job, None, most=None)
                self.assert_raises_only(InvalidJob, function, job, 5)
            self.assertRaises(InvalidJob, function, WIDE, 5)
            for value in NO_NUMBERS:
                self.assert_invalid_number(value, function, A, value)
                self.assert_invalid_number(value, function, A, value, most=0)
                self.assert_invalid_number(value, function, A, 5, most=value)
            for value in (0, -1, MOST + 1, -MOST, 10 ** 61 - 1):
                self.assert_invalid_number(value, function, A, 5, most=value)
                self.assert_invalid_number(value, function, A, -1, most=value)
                self.assert_invalid_number(value, function, EMPTY_HUGE, 0, most=value)
            self.assertEqual(function(A, 10 ** 61 - 1, most=MOST)[1], MOST // 2)


class AgreementTest(Checks):
    def test_what_fits_has_a_plan_and_what_does_not_has_a_barrier(self):
        for job in random_jobs(193, 30, 5) + uneven_jobs(198, 60):
            capacity = profile(job)[1] + 2
            for kind, found in (('copies', copies_that_fit(job, capacity)), ('repeat', rounds_that_fit(job, capacity))):
                for n in (found[0], found[1]):
                    value = certificate((kind, n, job), capacity)
                    self.assertEqual(value[0], 'plan')
                    self.assertIs(is_plan((kind, n, job), value[1]), True)
                if found[1] < MOST // max(1, step_count(job)):
                    value = certificate((kind, found[1] + 1, job), capacity)
                    self.assertEqual(value[0], 'barrier')
                    self.assertIs(is_barrier((kind, found[1] + 1, job), capacity, value[1]), True)
