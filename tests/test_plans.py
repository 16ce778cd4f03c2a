"""Point 13: set_ticks."""

import inspect
import itertools
import random
import time
import unittest

from stepwheel import StepWheel
from timerdeque import plans
from timerdeque.digits import side
from timerdeque.errors import NoBase, NoLevels, NoOrder, NoTick
from timerdeque.plans import set_ticks
from timerdeque.wheel import Wheel
from wrong import not_bases, not_levels, not_orders, not_ticks

LEVELS = [["stack"], ["queue"], ["stack", "queue"], ["queue", "stack"], ["stack", "queue", "stack"]]
HUGE = 10 ** 60 - 1


def order_told(kind, base, levels, start, due, ticks):
    """The order in which a wheel fires timers that are set at these ticks."""
    wheel = kind(base, levels, start=start)
    for tick in ticks:
        wheel.advance(tick)
        wheel.put(due)
    [(at, numbers)] = wheel.advance(due)
    return numbers


def searched(base, levels, start, due, order):
    """What set_ticks returns, found by trying all lists of ticks in ascending order."""
    for many in range(1, len(order) + 1):
        wanted = [number for number in order if number < many]
        found = None
        for ticks in itertools.combinations_with_replacement(range(start, due), many):
            numbers = [0]
            for number in range(1, many):
                front = side(base, levels, ticks[number], due) == "front"
                numbers = [number] + numbers if front else numbers + [number]
            if numbers == wanted:
                found = list(ticks)
                break
        if found is None:
            return ("never", many - 1)
    return ("ticks", found)


class Interface(unittest.TestCase):
    def test_arguments(self):
        self.assertEqual(str(inspect.signature(set_ticks)), "(base, levels, start, due, order)")

    def test_defined_in_its_file(self):
        self.assertEqual(set_ticks.__module__, "timerdeque.plans")
        self.assertIs(plans.set_ticks, set_ticks)

    def test_by_name(self):
        told = set_ticks(order=[1, 0], due=205, start=0, levels=["stack"], base=10)
        self.assertEqual(told, ("ticks", [0, 200]))

    def test_kinds_of_values(self):
        told = set_ticks(10, ["stack"], 0, 205, [1, 0])
        self.assertIs(type(told), tuple)
        self.assertEqual([type(part) for part in told], [str, list])
        self.assertEqual([type(part) for part in told[1]], [int, int])
        told = set_ticks(10, ["stack"], 0, 205, [0, 2, 1])
        self.assertIs(type(told), tuple)
        self.assertEqual([type(part) for part in told], [str, int])


class Ordinary(unittest.TestCase):
    def test_one_timer_is_set_at_the_start(self):
        for start in (0, 7, 204):
            for levels in LEVELS:
                self.assertEqual(set_ticks(10, levels, start, 205, [0]), ("ticks", [start]))

    def test_two_timers(self):
        self.assertEqual(set_ticks(10, ["stack"], 0, 205, [1, 0]), ("ticks", [0, 200]))
        self.assertEqual(set_ticks(10, ["stack"], 0, 205, [0, 1]), ("ticks", [0, 0]))
        self.assertEqual(set_ticks(10, ["queue"], 0, 205, [0, 1]), ("ticks", [0, 0]))
        self.assertEqual(set_ticks(10, ["queue"], 0, 205, [1, 0]), ("never", 1))
        self.assertEqual(set_ticks(10, ["stack"], 0, 5, [1, 0]), ("ticks", [0, 0]))
        self.assertEqual(set_ticks(10, ["stack"], 0, 5, [0, 1]), ("never", 1))

    def test_the_start_counts(self):
        self.assertEqual(set_ticks(10, ["stack"], 3, 205, [1, 0]), ("ticks", [3, 200]))
        self.assertEqual(set_ticks(10, ["stack"], 200, 205, [1, 0]), ("ticks", [200, 200]))
        self.assertEqual(set_ticks(10, ["stack"], 203, 205, [1, 0]), ("ticks", [203, 203]))
        self.assertEqual(set_ticks(10, ["stack"], 199, 205, [0, 1]), ("ticks", [199, 199]))
        self.assertEqual(set_ticks(10, ["stack"], 200, 205, [0, 1]), ("never", 1))

    def test_several_timers(self):
        self.assertEqual(set_ticks(10, ["stack"], 0, 205, [3, 2, 0, 1]), ("ticks", [0, 0, 200, 200]))
        self.assertEqual(set_ticks(10, ["stack"], 0, 1205, [2, 1, 0, 3]), ("ticks", [0, 0, 0, 1000]))
        self.assertEqual(set_ticks(10, ["stack"], 0, 1205, [3, 1, 0, 2, 4]), ("never", 4))
        self.assertEqual(set_ticks(10, ["stack"], 0, 1205, [2, 1, 0]), ("ticks", [0, 0, 0]))
        self.assertEqual(set_ticks(10, ["stack"], 0, 1205, [3, 1, 0, 2]), ("ticks", [0, 0, 1000, 1200]))
        self.assertEqual(set_ticks(10, ["queue", "stack"], 0, 1205, [3, 0, 1, 2]), ("ticks", [0, 0, 0, 1000]))

    def test_orders_in_which_one_comes_between(self):
        self.assertEqual(set_ticks(10, ["stack"], 0, 205, [0, 2, 1]), ("never", 2))
        self.assertEqual(set_ticks(10, ["stack"], 0, HUGE, [1, 2, 0]), ("never", 2))
        self.assertEqual(set_ticks(2, ["stack"], 0, HUGE, [3, 1, 4, 0, 2]), ("never", 4))
        self.assertEqual(set_ticks(2, ["stack"], 0, HUGE, [4, 2, 0, 1, 3]),
                         ("ticks", searched_far(2, ["stack"], 0, HUGE, [4, 2, 0, 1, 3])))

    def test_the_least_k(self):
        # Timer 1 cannot go in front of a queue, whatever comes later.
        self.assertEqual(set_ticks(10, ["queue"], 0, 205, [1, 3, 0, 2]), ("never", 1))
        self.assertEqual(set_ticks(10, ["queue"], 0, 205, [0, 1, 3, 2]), ("never", 3))
        self.assertEqual(set_ticks(10, ["queue"], 0, 205, [2, 0, 1, 3]), ("never", 2))
        self.assertEqual(set_ticks(10, ["stack"], 0, 205, [2, 0, 3, 1]), ("never", 3))
        # Timer 3 comes too late for the side that ended with timer 2.
        self.assertEqual(set_ticks(10, ["stack"], 0, 205, [4, 2, 0, 1, 3]), ("never", 3))

    def test_two_at_the_same_tick(self):
        kind, ticks = set_ticks(10, ["stack"], 0, 205, [3, 2, 0, 1])
        self.assertEqual(len(ticks), 4)
        self.assertEqual(len(set(ticks)), 2)
        self.assertEqual(set_ticks(10, ["queue"], 9, 205, list(range(12))), ("ticks", [9] * 12))
        self.assertEqual(set_ticks(10, ["stack"], 9, 20, list(range(12))[::-1]), ("ticks", [9] * 12))


def searched_far(base, levels, start, due, order):
    """The least ticks among those at which the digits of the due tick end in zeros."""
    ticks, cuts = [start], []
    size = 1
    while size <= due:
        cuts = [due // size * size] + cuts
        size *= base
    cuts = [start] + [cut for cut in cuts if start < cut < due]
    for number in range(1, len(order)):
        front = order.index(number) < min(order.index(other) for other in range(number))
        sides = [cut for cut in cuts if cut >= ticks[-1] and (side(base, levels, cut, due) == "front") == front]
        ticks.append(sides[0])
    return ticks


class Compared(unittest.TestCase):
    def test_all_lists_of_ticks(self):
        orders = [list(order) for many in (1, 2, 3) for order in itertools.permutations(range(many))]
        orders += [[3, 2, 0, 1], [3, 1, 0, 2], [0, 1, 2, 3], [2, 1, 3, 0], [1, 0, 2, 3]]
        for base, levels in itertools.product((2, 3, 4), LEVELS):
            for start, due in [(0, 1), (0, 7), (0, 13), (3, 11), (6, 7), (2, 16), (5, 14)]:
                for order in orders:
                    told = set_ticks(base, levels, start, due, order)
                    self.assertEqual(told, searched(base, levels, start, due, order), (base, levels, start, due, order))

    def test_wheels_that_go_through_the_ticks(self):
        source = random.Random(13)
        kinds = {"ticks": 0, "never": 0}
        for _ in range(400):
            base = source.choice([2, 3, 10])
            levels = [source.choice(["stack", "queue"]) for _ in range(source.randint(1, 5))]
            due = source.randint(1, 300)
            start = source.randrange(due)
            order = []
            for number in range(source.randint(1, 6)):
                order = [number] + order if source.random() < 0.5 else order + [number]
            kind, told = set_ticks(base, levels, start, due, order)
            kinds[kind] += 1
            if kind == "ticks":
                self.assertEqual(order_told(Wheel, base, levels, start, due, told), order)
                self.assertEqual(order_told(StepWheel, base, levels, start, due, told), order)
            else:
                # All but the last of these timers can be set.
                before = [number for number in order if number < told]
                self.assertEqual(set_ticks(base, levels, start, due, before)[0], "ticks")
                with_it = [number for number in order if number <= told]
                self.assertEqual(set_ticks(base, levels, start, due, with_it), ("never", told))
        self.assertGreater(min(kinds.values()), 50)

    def test_later_ticks_are_not_the_least(self):
        for base, levels, order in itertools.product((2, 3), LEVELS, ([1, 0], [0, 1], [2, 0, 1])):
            kind, told = set_ticks(base, levels, 2, 23, order)
            if kind == "ticks":
                for at in range(1, len(told)):
                    for tick in range(told[at - 1], told[at]):
                        ticks = told[:at] + [tick]
                        wanted = [number for number in order if number <= at]
                        self.assertNotEqual(order_told(Wheel, base, levels, 2, 23, ticks), wanted)


class SixtyDigits(unittest.TestCase):
    def test_ones(self):
        due = int("1" * 60)
        # One digit fewer each time turns the side round.
        order = [0]
        for number in range(1, 12):
            order = [number] + order if number % 2 == 1 else order + [number]
        cuts = [due // 10 ** level * 10 ** level for level in range(60, 48, -1)]
        self.assertEqual(set_ticks(10, ["stack"], 0, due, order), ("ticks", [0] + cuts[1:]))
        self.assertEqual(set_ticks(10, ["stack"], due - 1, due, order), ("never", 2))

    def test_at_once(self):
        begun = time.process_time()
        orders = [list(range(12)), list(range(12))[::-1], [11, 9, 7, 5, 3, 1, 0, 2, 4, 6, 8, 10]]
        for base, levels, order in itertools.product((2, 3, 10, 64), LEVELS, orders):
            for start in (0, 10 ** 59 + 7, HUGE - 1):
                kind, told = set_ticks(base, levels, start, HUGE, order)
                if kind == "ticks":
                    self.assertEqual(order_told(Wheel, base, levels, start, HUGE, told), order)
        self.assertLess(time.process_time() - begun, 10)


class WrongArguments(unittest.TestCase):
    def test_each_alone(self):
        for base in not_bases():
            with self.assertRaises(NoBase, msg=repr(base)):
                set_ticks(base, ["stack"], 0, 205, [1, 0])
        for levels in not_levels():
            with self.assertRaises(NoLevels, msg=repr(levels)):
                set_ticks(10, levels, 0, 205, [1, 0])
        for tick in not_ticks():
            for start, due in [(tick, 205), (0, tick), (tick, tick)]:
                with self.assertRaises(NoTick, msg=repr(tick)):
                    set_ticks(10, ["stack"], start, due, [1, 0])

    def test_orders(self):
        for order in not_orders():
            for levels in (["stack"], ["queue"]):
                with self.assertRaises(NoOrder, msg=repr(order)):
                    set_ticks(10, levels, 0, 205, order)

    def test_an_empty_order(self):
        with self.assertRaises(NoOrder):
            set_ticks(10, ["stack"], 0, 205, [])

    def test_due_is_greater_than_start(self):
        for start, due in [(0, 0), (205, 205), (206, 205), (10 ** 59, 10 ** 59), (10 ** 59, 3)]:
            for order in ([0], [1, 0], [0, 2, 1], [], None):
                with self.assertRaises(NoTick):
                    set_ticks(10, ["stack"], start, due, order)

    def test_the_first_wrong_argument_tells(self):
        for wrong in (None, [], True, -1):
            for at, error in enumerate([NoBase, NoLevels, NoTick, NoTick, NoOrder]):
                given = [10, ["stack"], 0, 205, [1, 0]][:at] + [wrong] * (5 - at)
                with self.assertRaises(error):
                    set_ticks(*given)

    def test_a_wrong_order_is_no_plan_that_never_works(self):
        for order in ([0, 2, 1, 1], [0, 2, 1, True], [1, 3, 0], [0, 2, 1, 4]):
            with self.assertRaises(NoOrder):
                set_ticks(10, ["queue"], 0, 205, order)

    def test_arguments_stay_as_they_are(self):
        levels, order = ["stack", "queue", "queue"], [2, 1, 0]
        told = set_ticks(10, levels, 0, 205, order)
        self.assertEqual((levels, order), (["stack", "queue", "queue"], [2, 1, 0]))
        kept = list(told[1])
        told[1].append(7)
        self.assertEqual(set_ticks(10, levels, 0, 205, order), ("ticks", kept))


if __name__ == "__main__":
    unittest.main()
