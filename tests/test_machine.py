"""Promise 14.3: machines, and evaluation within a capacity."""

import random

from roomprofile.errors import InvalidExpression, InvalidOperation, InvalidRun, NotEnough, TooMany
from roomprofile.expressions.expressions import is_expression, job_of, size_of, value_of
from roomprofile.expressions.machine import Machine, evaluate_within, evaluation_order
from roomprofile.jobs.jobs import step_count
from roomprofile.jobs.states import available
from roomprofile.profiles.profiles import profile
from roomprofile.runs.runs import is_complete_run, run_peak, run_usages
from tests.checks import Checks
from tests.reference import Order, profile_of, state_count
from tests.reference_expressions import held_after, random_expression, value_by_words
from tests.test_expressions import EXPRESSIONS, NO_EXPRESSIONS, ONE, SUM, applied, folded
from tests.values import INTEGERS, NO_NUMBERS, NUMBER_EDGES, STRANGE, TUPLES, WIDE

GREAT = 10 ** 61 - 1
LARGE = ('each', 'add', 200, ('apply', 'add', (ONE,), 1), 1)


class EvaluationTest(Checks):
    def assert_not_enough(self, least, function, *arguments, **more):
        self.assertEqual(self.assert_raises_only(NotEnough, function, *arguments, **more).least, least)

    def test_examples(self):
        one = ('apply', 'add', (('load', 3, 5), ('apply', 'mul', (('load', 2, 4), ('load', 7, 4)), 1)), 2)
        self.assert_same(evaluate_within(one, 9), (17, 9))
        self.assert_not_enough(9, evaluate_within, one, 8)
        self.assert_same(evaluation_order(('apply', 'min', (('load', 3, 5),), 1)), ((0, 0), (1,), (2,)))

    def test_drawn_expressions_state_by_state(self):
        source = random.Random(281)
        checked = 0
        for _ in range(400):
            expression = random_expression(source, 2)
            job = job_of(expression)
            if state_count(job) > 300:
                continue
            checked += 1
            peak = profile_of(job)[1]
            for capacity in (peak, peak + 1, GREAT):
                self.assert_same(evaluate_within(expression, capacity), (value_by_words(expression), peak))
            for capacity in (peak - 1, -1, -GREAT):
                self.assert_not_enough(peak, evaluate_within, expression, capacity)
            order = evaluation_order(expression)
            self.assertTrue(is_complete_run(job, order))
            self.assertEqual(run_peak(job, order), peak)
        self.assertGreater(checked, 200)

    def test_great_expressions(self):
        for expression in EXPRESSIONS:
            peak = profile(job_of(expression))[1]
            self.assert_same(evaluate_within(expression, peak), (value_of(expression), peak))
            self.assert_not_enough(peak, evaluate_within, expression, peak - 1)
            if step_count(job_of(expression)) > 400:
                self.assert_too_many(400, evaluation_order, expression)
            else:
                self.assertEqual(run_peak(job_of(expression), evaluation_order(expression)), peak)

    def test_small_and_large_jobs(self):
        small = ('each', 'add', 398, ('load', 3, 1), 2)
        self.assertEqual(len(evaluation_order(small)), 400)
        self.assert_too_many(400, evaluation_order, ('each', 'add', 399, ('load', 3, 1), 2))
        Machine(small, capacity=0)
        self.assert_too_many(400, Machine, ('each', 'add', 399, ('load', 3, 1), 2), capacity=0)
        self.assert_too_many(400, Machine, ('each', 'add', 399, ('load', 3, 1), 2), capacity=None)

    def test_wrong_numbers(self):
        for value in NO_NUMBERS:
            self.assert_invalid_number(value, evaluate_within, SUM, value)
            self.assert_invalid_number(value, Machine, SUM, capacity=value)
        for value in NUMBER_EDGES:
            Machine(SUM, capacity=value)
        for value in STRANGE:
            self.assert_raises_only(InvalidExpression, evaluate_within, value, value)
            self.assert_raises_only(InvalidExpression, Machine, value, capacity=value)
            self.assertRaises(TypeError, Machine, SUM, 5)


class MachineTest(Checks):
    def test_example(self):
        machine = Machine(('apply', 'add', (('load', 3, 2), ('load', 4, 1)), 1), capacity=4)
        self.assertIsNone(machine.do((0, 1)))
        machine.do((0, 0))
        machine.do((1,))
        self.assert_same([machine.held(), machine.usage(), machine.available(), machine.result()],
                         [((3, 2), (4, 1), (7, 1)), 4, ((2,),), None])
        self.assertEqual(str(machine), '3 of 4 steps, usage 4')
        machine.do((2,))
        self.assert_same([machine.held(), machine.usage(), machine.peak(), machine.available(), machine.result()],
                         [((7, 1),), 1, 4, (), 7])

    def test_new_machines(self):
        machine = Machine(ONE, capacity=-5)
        self.assert_same([machine.available(), machine.usage(), machine.peak(), machine.held(), machine.result(), len(machine)],
                         [((),), 0, 0, (), None, 0])
        self.assertEqual(str(machine), '0 of 1 steps, usage 0')

    def test_all_orders_of_small_expressions(self):
        source = random.Random(282)
        checked = 0
        for _ in range(500):
            expression = random_expression(source, 2)
            if is_expression(expression) and len(job_steps(expression)) <= 9 and state_count(job_of(expression)) <= 40:
                checked += 1
                self.go_on(expression, Order(job_of(expression)), Machine(expression, capacity=GREAT), [])
        self.assertGreater(checked, 100)

    def go_on(self, expression, order, machine, done):
        """All orders from here on, each step done and taken back."""
        usages = [0]
        for address in done:
            usages.append(usages[-1] + order.value[address])
        self.assert_same((machine.usage(), machine.peak(), len(machine)), (usages[-1], max(usages), len(done)))
        self.assert_same(machine.held(), held_after(expression, done))
        self.assertEqual(sum(size for _, size in machine.held()), usages[-1])
        free = order.available(frozenset(done))
        self.assert_same(machine.available(), tuple(free))
        if free:
            self.assertIsNone(machine.result())
        else:
            value = value_by_words(expression)
            self.assert_same((machine.result(), machine.held()), (value, ((value, size_of(expression)),)))
        for address in free:
            self.assertIsNone(machine.do(address))
            self.go_on(expression, order, machine, done + [address])
            self.assertIsNone(machine.undo())

    def test_drawn_orders_of_larger_expressions(self):
        source = random.Random(283)
        for _ in range(60):
            expression = random_expression(source, 3, 4)
            job = job_of(expression)
            if step_count(job) > 60:
                continue
            machine, done = Machine(expression, capacity=GREAT), []
            while machine.available():
                self.assertEqual(machine.available(), available(job, tuple(sorted(done))))
                address = source.choice(machine.available())
                machine.do(address)
                done.append(address)
                self.assertEqual(machine.held(), held_after(expression, done))
            self.assertEqual((machine.result(), machine.held()), (value_by_words(expression), ((value_by_words(expression), size_of(expression)),)))
            self.assertEqual(machine.peak(), max(run_usages(job, tuple(done))))
            while len(machine):
                machine.undo()
                done.pop()
                self.assertEqual((machine.held(), machine.peak()), (held_after(expression, done), max(run_usages(job, tuple(done)))))

    def test_the_best_order_and_the_least_peak(self):
        source = random.Random(284)
        for _ in range(150):
            expression = random_expression(source, 3, 3)
            if step_count(job_of(expression)) > 400:
                continue
            peak = evaluate_within(expression, GREAT)[1]
            machine = Machine(expression, capacity=peak)
            for address in evaluation_order(expression):
                machine.do(address)
            self.assertEqual((machine.peak(), machine.result()), (peak, value_of(expression)))
            machine = Machine(expression, capacity=peak - 1)
            with self.assertRaises(NotEnough):
                for address in evaluation_order(expression):
                    machine.do(address)
            self.assertLess(machine.usage(), max(1, peak))

    def test_capacities(self):
        machine = Machine(SUM, capacity=9)
        machine.do((0, 0))
        machine.do((0, 1))
        before = (machine.held(), len(machine), machine.peak())
        self.assertEqual(self.assert_raises_only(NotEnough, machine.do, (1,)).least, 11)
        self.assertEqual((machine.held(), len(machine), machine.peak()), before)
        machine = Machine(SUM, capacity=11)
        for address in ((0, 0), (0, 1), (1,), (2,)):
            machine.do(address)
        self.assertEqual(machine.result(), 10)
        machine = Machine(('load', 3, 0), capacity=-1)
        self.assertEqual(self.assert_raises_only(NotEnough, machine.do, ()).least, 0)
        machine = Machine(('load', 3, 0), capacity=0)
        machine.do(())
        self.assert_same((machine.held(), machine.result(), machine.usage()), (((3, 0),), 3, 0))
        # A step that gives back raises this error, too, if what is left is more than the capacity.
        machine = Machine(ONE, capacity=4)
        self.assertEqual(self.assert_raises_only(NotEnough, machine.do, ()).least, 5)

    def test_values_of_size_0_and_equal_pairs(self):
        machine = Machine(('each', 'add', 3, ('load', 5, 0), 0), capacity=0)
        for index, address in enumerate(((0, 2), (0, 0), (0, 1))):
            machine.do(address)
            self.assert_same(machine.held(), ((5, 0),) * (index + 1))
        machine.do((1,))
        self.assert_same(machine.held(), ((5, 0),) * 3 + ((15, 0),))
        machine.do((2,))
        self.assert_same(machine.held(), ((15, 0),))

    def test_accumulators(self):
        for operation, expected in (('add', (0, 5, 10)), ('mul', (1, 5, 25)), ('min', (996, 5, 5)), ('max', (0, 5, 5))):
            machine = Machine(('fold', operation, 2, ('load', 5, 3), 4), capacity=7)
            machine.do((0,))
            self.assert_same(machine.held(), ((expected[0], 4),))
            for number in range(2):
                machine.do((1, number, 0))
                self.assert_same(machine.held(), tuple(sorted(((expected[number], 4), (5, 3)))))
                machine.do((1, number, 1))
                self.assert_same(machine.held(), ((expected[number + 1], 4),))
            self.assertEqual(machine.result(), expected[2])

    def test_undo(self):
        machine = Machine(SUM, capacity=GREAT)
        self.assert_raises_only(InvalidOperation, machine.undo)
        machine.do((0, 1))
        machine.do((0, 0))
        machine.undo()
        self.assert_same((machine.held(), machine.peak(), len(machine), machine.available()), (((7, 4),), 4, 1, ((0, 0),)))
        machine.undo()
        self.assert_same((machine.held(), machine.peak(), len(machine)), ((), 0, 0))
        self.assert_raises_only(InvalidOperation, machine.undo)
        self.assertTrue(machine == Machine(SUM, capacity=GREAT))

    def test_wrong_addresses(self):
        machine = Machine(SUM, capacity=GREAT)
        for value in STRANGE + INTEGERS + tuple(row for row in TUPLES if row not in ((0, 0),)) + (
                (0, 2), (1,), (2,), (False, 0), (0, False), (0, True), [0, 0], (0, 0, 0), (0, 10 ** 70 - 1), ('0', '0')):
            self.assert_raises_only(InvalidRun, machine.do, value)
        self.assertRaises(InvalidRun, machine.do, WIDE)
        self.assertEqual(len(machine), 0)
        machine.do((0, 0))
        self.assert_raises_only(InvalidRun, machine.do, (0, 0))
        tight = Machine(SUM, capacity=-1)
        self.assert_raises_only(InvalidRun, tight.do, (1,))
        self.assert_raises_only(NotEnough, tight.do, (0, 0))

    def test_equal_machines(self):
        def of(expression, capacity, *addresses):
            machine = Machine(expression, capacity=capacity)
            for address in addresses:
                machine.do(address)
            return machine
        first = of(SUM, 20, (0, 0), (0, 1))
        self.assertTrue(first == of(SUM, 20, (0, 0), (0, 1)))
        self.assertFalse(first != of(SUM, 20, (0, 0), (0, 1)))
        self.assertFalse(first == of(SUM, 20, (0, 1), (0, 0)))
        self.assertFalse(first == of(SUM, 21, (0, 0), (0, 1)))
        self.assertFalse(first == of(SUM, 20, (0, 0)))
        self.assertFalse(first == of(('apply', 'mul', (ONE, SUM[2][1]), 2), 20, (0, 0), (0, 1)))
        other = of(SUM, 20, (0, 1), (0, 0))
        other.undo()
        other.undo()
        other.do((0, 0))
        other.do((0, 1))
        self.assertTrue(first == other)
        for value in STRANGE + INTEGERS + TUPLES + (str(first), SUM, object()):
            self.assertIs(first == value, False)

    def test_large_machines(self):
        expression = ('each', 'add', 100, ('apply', 'mul', (('load', 5, 2),), 1), 7)
        self.assertRaises(TooMany, Machine, LARGE, capacity=5)
        peak = evaluate_within(expression, GREAT)[1]
        machine = Machine(expression, capacity=peak)
        for address in evaluation_order(expression):
            machine.do(address)
        self.assert_same((machine.result(), machine.held(), len(machine)), (500, ((500, 7),), 302))
        machine = Machine(folded(2, applied(1, ONE), 9), capacity=GREAT)
        while machine.available():
            machine.do(machine.available()[0])
        self.assertEqual(machine.result(), 243)

    def test_no_expressions(self):
        for value in NO_EXPRESSIONS[-10:]:
            self.assertRaises(InvalidExpression, Machine, value, capacity=5)


def job_steps(expression):
    job = job_of(expression)
    return [None] * step_count(job)
