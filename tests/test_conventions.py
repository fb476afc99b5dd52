"""Promises 0.1 to 0.6, for all functions at once, and the interface that the document lists."""

import importlib
import inspect
import unittest

from roomprofile.expressions.machine import Machine
from roomprofile.keeper.keeper import Keeper
from roomprofile.library.library import Library
from roomprofile.text.shell import Shell
from tests.checks import Checks, repr_kinds
from tests.values import A, B, C, HUGE, INTEGERS, NO_JOBS, P, STRANGE, TUPLES, WIDE, deep_tuple
from tests.wrong_valleys import NO_PROFILES, NO_VALLEYS, PROFILES, START_VALLEYS

INTERFACE = {
    'jobs.jobs': {
        'is_job': '(value)', 'node_count': '(job)', 'step_count': '(job)', 'is_empty': '(job)', 'net': '(job)',
        'lowest': '(job)', 'mirror': '(job)', 'tidy': '(job)',
    },
    'jobs.addresses': {
        'is_address': '(job, value)', 'step_value': '(job, address)', 'precedes': '(job, first, second)',
        'all_addresses': '(job)',
    },
    'jobs.states': {
        'is_state': '(job, value)', 'usage': '(job, state)', 'available': '(job, state, *, most=None)',
        'union': '(job, first, second)', 'common': '(job, first, second)', 'least_state': '(job, addresses)',
    },
    'runs.runs': {
        'is_run': '(job, value, *, state=())', 'is_complete_run': '(job, value, *, state=())',
        'some_run': '(job, *, state=())', 'state_after': '(job, run, *, state=())',
        'run_usages': '(job, run, *, state=())', 'run_peak': '(job, run, *, state=())',
        'lift_run': '(job, run, state)', 'cut_run': '(job, run, state)',
    },
    'valleys.valleys': {
        'is_valleys': '(value)', 'is_start_valleys': '(value)', 'valley_at': '(valleys, capacity)',
        'shifted': '(valleys, *, capacity=0, usage=0)', 'from_capacity': '(valleys, capacity)',
        'least_of_two': '(first, second)', 'joint_lows': '(parts, capacity)', 'joint_valleys': '(parts)',
    },
    'profiles.basic': {'step_profile': '(value)', 'seq_profiles': '(profiles)'},
    'profiles.beside': {'par_profiles': '(profiles)'},
    'profiles.many': {'repeat_profile': '(count, profile)', 'copies_profile': '(count, profile)'},
    'profiles.profiles': {
        'profile': '(job)', 'is_profile': '(value)', 'normal_form': '(profile)', 'start_low': '(job, capacity)',
        'end_low': '(job, capacity)',
    },
    'plans.plans': {
        'is_plan': '(job, value)', 'chain': '(job, plan)', 'plan_peak': '(job, plan)', 'chain_profile': '(chain)',
        'sequential_plan': '(job)',
    },
    'plans.best': {'best_plan': '(job)'},
    'plans.orders': {
        'run_of_plan': '(job, plan)', 'step_at': '(job, plan, position)', 'position_of': '(job, plan, address)',
        'usage_at': '(job, plan, count)', 'peak_between': '(job, plan, first, last)',
    },
    'barriers.judge': {'is_floor': '(job, capacity, low, value)', 'is_barrier': '(job, capacity, value)'},
    'barriers.find': {'find_floor': '(job, capacity, low)', 'find_barrier': '(job, capacity)'},
    'decisions.certificates': {
        'certificate': '(job, capacity)', 'is_certificate': '(job, capacity, value)', 'least_certificate': '(job)',
        'is_least_certificate': '(job, value)',
    },
    'decisions.limits': {
        'copies_that_fit': f'(job, capacity, *, most={10 ** 30})', 'rounds_that_fit': f'(job, capacity, *, most={10 ** 30})',
    },
    'exchange.contexts': {'is_context': '(value)', 'plug': '(context, job)', 'capacity_in': '(context, job)'},
    'exchange.compare': {
        'is_at_most': '(first, second)', 'can_replace': '(first, second)', 'are_exchangeable': '(first, second)',
        'separation': '(first, second)', 'is_separation': '(first, second, value)',
    },
    'progress.choices': {
        'choices': '(job)', 'is_choice': '(job, value)', 'do_step': '(job, choice)', 'remaining_after': '(job, plan, count)',
    },
    'library.library': {'is_definition': '(value)'},
    'expressions.expressions': {
        'is_expression': '(value)', 'value_of': '(expression)', 'size_of': '(expression)', 'job_of': '(expression)',
    },
    'expressions.machine': {'evaluate_within': '(expression, capacity)', 'evaluation_order': '(expression)'},
    'text.formats': {
        'job_text': '(job)', 'parse_job': '(text)', 'definition_text': '(definition)', 'parse_definition': '(text)',
        'profile_text': '(profile)', 'parse_profile': '(text)', 'paper_text': '(paper)', 'parse_paper': '(text)',
    },
}

SHOWN = {'__len__': '(self)', '__str__': '(self)', '__eq__': '(self, value)'}
CLASSES = {
    ('keeper.keeper', 'Keeper'): {
        '__init__': '(self, capacity)', 'capacity': '(self)', 'usage': '(self)', 'need': '(self)', 'names': '(self)',
        'remaining': '(self, name)', 'usage_of': '(self, name)', 'admit': '(self, name, job)', 'grant': '(self, name, choice)',
        'refusal': '(self, name, choice)', 'grantable': '(self)', 'next_grant': '(self)', 'set_capacity': '(self, capacity)',
        'remove': '(self, name)', 'undo': '(self)', 'log': '(self)', **SHOWN,
    },
    ('library.library', 'Library'): {
        '__init__': '(self)', 'names': '(self)', 'definition': '(self, name)', 'uses': '(self, name)', 'users': '(self, name)',
        'step_count': '(self, name)', 'profile': '(self, name)', 'least_capacity': '(self, name)', 'computed': '(self)',
        'define': '(self, name, definition)', 'define_all': '(self, rows)', 'redefine': '(self, name, definition)',
        'remove': '(self, name)', 'undo': '(self)', 'expand': '(self, name)', 'impact': '(self, name, definition)',
        'can_redefine': '(self, name, definition)', **SHOWN,
    },
    ('expressions.machine', 'Machine'): {
        '__init__': '(self, expression, *, capacity)', 'available': '(self)', 'usage': '(self)', 'peak': '(self)', 'held': '(self)',
        'result': '(self)', 'do': '(self, address)', 'undo': '(self)', **SHOWN,
    },
    ('text.shell', 'Shell'): {
        '__init__': '(self)', 'run': '(self, command)', 'run_all': '(self, commands)', 'library': '(self)', 'keeper': '(self)', **SHOWN,
    },
}
CONSTANTS = {
    'jobs.jobs': {'MAX_STEP': 10 ** 30, 'MAX_COUNT': 10 ** 30, 'MAX_PARTS': 400, 'MAX_NODES': 400, 'MAX_DEPTH': 13},
    'jobs.addresses': {'MAX_SMALL': 400}, 'valleys.valleys': {'MAX_VALLEYS': 400}, 'plans.plans': {'MAX_SEGMENTS': 2000},
    'keeper.keeper': {'MAX_JOBS': 20}, 'expressions.expressions': {'MODULUS': 997, 'MAX_SIZE': 10 ** 12},
}

STEP_PROFILES = ((5, 5, ((0, 0),), ((5, 0),)), (-3, 0, ((0, -3),), ((-3, -3),)))
TWO = ('seq', (('step',), ('step',)))
PLAN = ('par', (('join', (2,), TWO), ('seq', (('step',),) * 3)), (1, 1, 0, 1))
BARRIER = ('high', 0, ('part', 0, ('net',)))
CONTEXT = ('par', (('hole',), ('seq', (4, -4))))
DEFINITION = ('seq', (('use', 'work'), ('copies', 2, ('use', 'a'))))
EXPRESSION = ('apply', 'add', (('load', 3, 5), ('fold', 'mul', 2, ('load', 7, 4), 1)), 2)
CALLS = {
    'is_job': (C,), 'node_count': (C,), 'step_count': (C,), 'is_empty': (C,), 'net': (C,), 'lowest': (C,), 'mirror': (C,),
    'tidy': (C,), 'is_address': (C, (0, 0)), 'step_value': (C, (0, 0)), 'precedes': (C, (0, 0), (0, 1)),
    'all_addresses': (C,), 'is_state': (C, ((0, 0),)), 'usage': (C, ((0, 0),)), 'available': (C, ((0, 0),)),
    'union': (C, ((0, 0),), ((1, 0),)), 'common': (C, ((0, 0),), ((0, 0), (1, 0))), 'least_state': (C, ((0, 1), (0, 1))),
    'is_run': (C, ((0, 0),)), 'is_complete_run': (C, ((0, 0),)), 'some_run': (C,), 'state_after': (C, ((1, 0), (0, 0))),
    'run_usages': (C, ((0, 0),)), 'run_peak': (C, ((0, 0),)), 'lift_run': (C, ((0, 0), (1, 0)), ((0, 0),)),
    'cut_run': (C, ((0, 0), (1, 0)), ((0, 0),)), 'is_valleys': (((0, 0),),), 'is_start_valleys': (((0, 0),),),
    'valley_at': (((0, 0),), 0), 'shifted': (((0, 0), (1, -1)),), 'from_capacity': (((0, 0), (2, -1)), 1),
    'least_of_two': (((0, 0),), ((1, -1),)), 'joint_lows': ((((0, 0),), ((0, 0), (1, -1))), 1),
    'joint_valleys': ((((0, 0),), ((0, 0), (1, -1))),), 'step_profile': (5,), 'seq_profiles': (STEP_PROFILES,),
    'par_profiles': (STEP_PROFILES,), 'repeat_profile': (3, STEP_PROFILES[0]), 'copies_profile': (3, STEP_PROFILES[1]),
    'profile': (C,), 'is_profile': (STEP_PROFILES[0],), 'normal_form': (STEP_PROFILES[0],), 'start_low': (C, 3),
    'end_low': (C, 3), 'is_plan': (C, PLAN), 'chain': (C, PLAN), 'plan_peak': (C, PLAN), 'chain_profile': (((1, 2, 3),),),
    'sequential_plan': (C,), 'best_plan': (C,), 'run_of_plan': (C, PLAN), 'step_at': (C, PLAN, 2),
    'position_of': (C, PLAN, (0, 1)), 'usage_at': (C, PLAN, 2), 'peak_between': (C, PLAN, 1, 3),
    'is_floor': (C, 3, -2, ('lowest',)), 'is_barrier': (C, 3, BARRIER), 'find_floor': (C, 2, 0), 'find_barrier': (C, 3),
    'certificate': (C, 3), 'is_certificate': (C, 3, ('barrier', BARRIER)), 'least_certificate': (C,),
    'is_least_certificate': (C, (4, PLAN, BARRIER)), 'copies_that_fit': (C, 9), 'rounds_that_fit': (C, 9),
    'is_context': (CONTEXT,), 'plug': (CONTEXT, A), 'capacity_in': (CONTEXT, A), 'is_at_most': STEP_PROFILES, 'can_replace': (B, A),
    'are_exchangeable': (A, B), 'separation': (A, B), 'is_separation': (A, B, (CONTEXT, 4)), 'choices': (C,), 'is_choice': (C, (0, 0)),
    'do_step': (C, (0, 0)), 'remaining_after': (C, PLAN, 2), 'is_definition': (DEFINITION,), 'is_expression': (EXPRESSION,),
    'value_of': (EXPRESSION,), 'size_of': (EXPRESSION,), 'job_of': (EXPRESSION,), 'evaluate_within': (EXPRESSION, 99),
    'evaluation_order': (EXPRESSION,), 'job_text': (C,), 'parse_job': ('seq(5, -3)',), 'definition_text': (DEFINITION,),
    'parse_definition': ('use(work)',), 'profile_text': (STEP_PROFILES[0],), 'parse_profile': ('net 5, peak 5, start 0:0, end 5:0',),
    'paper_text': (PLAN,), 'parse_paper': ('(a none)',),
}

ANY_VALUES = STRANGE + INTEGERS + TUPLES + NO_JOBS + NO_VALLEYS + NO_PROFILES + PROFILES + START_VALLEYS + (
    A, B, C, P, HUGE, deep_tuple(200), [[[]]] * 3, {'a': {'b': (1, [2])}}, ((0, 0), {'a': 1}), (((0, 0), []),), PLAN, TWO, ('step',), BARRIER, ('lowest',), ('net',), ('plan', PLAN), (4, PLAN, BARRIER),
    CONTEXT, ('hole',), DEFINITION, ('use', 'a'), EXPRESSION, ('load', 3, 5), (CONTEXT, 5), Keeper(5), (Library(), 5), ('seq', (Shell(),)),
    [Machine(EXPRESSION, capacity=5)], (Keeper(5), ()),
)


def functions():
    for module, names in INTERFACE.items():
        for name, signature in names.items():
            yield importlib.import_module('roomprofile.' + module), name, signature


class InterfaceTest(Checks):
    def test_functions_are_defined_where_they_are_listed(self):
        for module, name, signature in functions():
            with self.subTest(name):
                function = getattr(module, name)
                self.assertTrue(inspect.isfunction(function))
                self.assertEqual(function.__module__, module.__name__)
                self.assertEqual(str(inspect.signature(function)), signature)

    def test_classes_define_their_methods_themselves(self):
        for (module_name, name), methods in CLASSES.items():
            module = importlib.import_module('roomprofile.' + module_name)
            kind = getattr(module, name)
            self.assertTrue(inspect.isclass(kind))
            self.assertEqual((kind.__module__, kind.__bases__), (module.__name__, (object,)))
            for method, signature in methods.items():
                with self.subTest(name=name, method=method):
                    self.assertTrue(inspect.isfunction(vars(kind)[method]))
                    self.assertEqual(str(inspect.signature(vars(kind)[method])), signature)

    def test_constants(self):
        for module_name, constants in CONSTANTS.items():
            module = importlib.import_module('roomprofile.' + module_name)
            for name, value in constants.items():
                self.assert_same(getattr(module, name), value)

    def test_all_functions_are_called_below(self):
        self.assertEqual({name for _, name, _ in functions()}, set(CALLS))


class ConventionsTest(Checks):
    def test_the_same_call_returns_an_equal_result(self):
        for module, name, _ in functions():
            with self.subTest(name):
                function = getattr(module, name)
                self.assert_same(function(*CALLS[name]), function(*CALLS[name]))

    def test_results_cannot_be_changed(self):
        for module, name, _ in functions():
            with self.subTest(name):
                self.assertTrue(is_fixed(getattr(module, name)(*CALLS[name])))

    def test_functions_that_accept_any_value(self):
        kinds = repr_kinds(ANY_VALUES)
        for module, name, signature in functions():
            if 'value' not in signature or not name.startswith('is_'):
                continue
            function = getattr(module, name)
            before = {'(value)': [()], '(job, value)': [(C,), (5,), (P,)], '(first, second, value)': [(A, B), (B, A)]}.get(signature)
            if before is None:
                before = [(job,) + CALLS[name][1:-1] for job in (C, 5, P)]
            for arguments in before:
                for index, value in enumerate(ANY_VALUES + (WIDE,)):
                    with self.subTest(name=name, index=index):
                        self.assertIsInstance(function(*arguments, value), bool)
        self.assertEqual(repr_kinds(ANY_VALUES), kinds)

    def test_booleans_are_no_integers(self):
        def calls(truth, zero):
            """Calls that go well with 1 and 0."""
            return (
                ('jobs.jobs', 'node_count', (('seq', (truth, zero)),), {}),
                ('jobs.jobs', 'node_count', (('repeat', truth, 5),), {}),
                ('jobs.addresses', 'step_value', (C, (truth, zero)), {}),
                ('jobs.states', 'usage', (C, ((truth, zero),)), {}),
                ('jobs.states', 'available', (C, ()), {'most': truth}),
                ('jobs.states', 'least_state', (C, ((truth, zero),)), {}),
                ('runs.runs', 'run_usages', (C, ((truth, zero),)), {}),
                ('runs.runs', 'run_usages', (C, ()), {'state': ((truth, zero),)}),
                ('valleys.valleys', 'valley_at', (((zero, zero),), 5), {}),
                ('valleys.valleys', 'valley_at', (((0, 0),), truth), {}),
                ('valleys.valleys', 'shifted', (((0, 0),),), {'usage': zero}),
                ('valleys.valleys', 'joint_lows', ((((0, 0),),), zero), {}),
                ('profiles.basic', 'step_profile', (truth,), {}),
                ('profiles.beside', 'par_profiles', (((zero, truth, ((0, 0),), ((0, 0),)),),), {}),
                ('profiles.many', 'repeat_profile', (truth, STEP_PROFILES[0]), {}),
                ('profiles.many', 'copies_profile', (zero, STEP_PROFILES[0]), {}),
                ('profiles.profiles', 'normal_form', ((zero, truth, ((0, 0),), ((0, 0),)),), {}),
                ('profiles.profiles', 'start_low', (C, truth), {}),
                ('profiles.profiles', 'end_low', (A, truth), {}),
                ('plans.plans', 'chain', (5, ('join', (truth,), ('step',))), {}),
                ('plans.plans', 'plan_peak', (('par', (5, 5)), ('par', (('step',),) * 2, (truth, zero))), {}),
                ('plans.plans', 'chain_profile', (((zero, truth, 1),),), {}),
                ('plans.orders', 'step_at', (C, PLAN, truth), {}),
                ('plans.orders', 'position_of', (C, PLAN, (truth, zero)), {}),
                ('plans.orders', 'usage_at', (C, PLAN, zero), {}),
                ('plans.orders', 'peak_between', (C, PLAN, zero, 1), {}),
                ('plans.orders', 'peak_between', (C, PLAN, 0, truth), {}),
                ('barriers.judge', 'is_floor', (C, truth, zero, None), {}),
                ('barriers.judge', 'is_floor', (C, 1, zero, None), {}),
                ('barriers.judge', 'is_barrier', (C, truth, None), {}),
                ('barriers.find', 'find_floor', (C, truth, 0), {}),
                ('barriers.find', 'find_floor', (C, 1, zero), {}),
                ('barriers.find', 'find_barrier', (C, zero), {}),
                ('decisions.certificates', 'certificate', (C, truth), {}),
                ('decisions.certificates', 'is_certificate', (C, truth, None), {}),
                ('decisions.limits', 'copies_that_fit', (C, 9), {'most': truth}),
                ('decisions.limits', 'rounds_that_fit', (C, zero), {}),
                ('exchange.contexts', 'plug', (('par', (('hole',), truth)), A), {}),
                ('exchange.contexts', 'capacity_in', (('par', (('hole',), ('repeat', truth, 5))), A), {}),
                ('exchange.compare', 'is_at_most', (STEP_PROFILES[0], (zero, truth, ((0, 0),), ((0, 0),))), {}),
                ('exchange.compare', 'can_replace', (('seq', (truth, zero)), A), {}),
                ('exchange.compare', 'separation', (A, ('copies', truth, 5)), {}),
                ('progress.choices', 'do_step', (C, (truth, zero)), {}),
                ('progress.choices', 'remaining_after', (C, PLAN, truth), {}),
                ('expressions.expressions', 'value_of', (('load', truth, 5),), {}),
                ('expressions.expressions', 'job_of', (('fold', 'add', truth, ('load', 3, zero), truth),), {}),
                ('expressions.machine', 'evaluate_within', (('load', 3, zero), zero), {}),
                ('expressions.machine', 'evaluate_within', (('load', 3, 0), zero), {}),
                ('text.formats', 'job_text', (('seq', (truth,)),), {}),
                ('text.formats', 'definition_text', (('copies', truth, ('use', 'a')),), {}),
                ('text.formats', 'profile_text', ((zero, truth, ((0, 0),), ((0, 0),)),), {}),
                ('text.formats', 'paper_text', ((truth, zero),), {}),
                ('keeper.keeper', 'Keeper', (truth,), {}),
                ('expressions.machine', 'Machine', (('load', 3, 0),), {'capacity': zero}),
            )
        for module, name, arguments, more in calls(1, 0):
            getattr(importlib.import_module('roomprofile.' + module), name)(*arguments, **more)
        for index, (module, name, arguments, more) in enumerate(calls(True, False)):
            with self.subTest(index=index, name=name):
                with self.assertRaises((ValueError, IndexError)):
                    getattr(importlib.import_module('roomprofile.' + module), name)(*arguments, **more)


def is_fixed(value):
    if isinstance(value, tuple):
        return all(is_fixed(part) for part in value)
    return value is None or isinstance(value, (int, str))


if __name__ == '__main__':
    unittest.main()
