"""Points 11 and 12: common and first_of_two."""

import inspect
import itertools
import math
import random
import time
import unittest

from periodic import LEVELS, fires, run
from timerdeque import periods
from timerdeque.digits import side
from timerdeque.errors import NoBase, NoLevels, NoPeriod, NoTick
from timerdeque.periods import common, first_of_two
from wrong import not_bases, not_levels, not_periodic, not_ticks

HUGE = 10 ** 60 - 1


def seen_common(one, other):
    """The first two common ticks, found by going through the ticks."""
    end = max(one[0], other[0]) + 2 * one[1] * other[1]
    ticks = [tick for tick in range(end) if fires(one, tick) and fires(other, tick)]
    return (ticks[0], ticks[1] - ticks[0]) if ticks else None


class Interface(unittest.TestCase):
    def test_arguments(self):
        self.assertEqual(str(inspect.signature(common)), "(one, other)")
        self.assertEqual(str(inspect.signature(first_of_two)), "(base, levels, one, other, tick)")

    def test_defined_in_their_file(self):
        for made in (common, first_of_two):
            self.assertEqual(made.__module__, "timerdeque.periods")
            self.assertIs(getattr(periods, made.__name__), made)

    def test_by_name(self):
        self.assertEqual(common(other=(3, 6), one=(1, 4)), (9, 12))
        self.assertEqual(first_of_two(tick=12, other=(0, 6), one=(0, 4), levels=["stack"], base=10), 1)


class Common(unittest.TestCase):
    def test_ordinary(self):
        self.assertEqual(common((1, 4), (3, 6)), (9, 12))
        self.assertEqual(common((3, 6), (1, 4)), (9, 12))
        self.assertEqual(common((2, 3), (3, 5)), (8, 15))
        self.assertEqual(common((7, 10), (2, 5)), (7, 10))

    def test_no_common_tick(self):
        self.assertIsNone(common((0, 2), (1, 2)))
        self.assertIsNone(common((0, 4), (1, 6)))
        self.assertIsNone(common((5, 10), (1, 15)))
        self.assertIsNone(common((0, 10 ** 59), (1, 10 ** 58)))

    def test_kinds_of_values(self):
        told = common((1, 4), (3, 6))
        self.assertIs(type(told), tuple)
        self.assertEqual([type(part) for part in told], [int, int])

    def test_phases_zero(self):
        self.assertEqual(common((0, 4), (0, 6)), (0, 12))
        self.assertEqual(common((0, 1), (0, 1)), (0, 1))
        self.assertEqual(common((0, 4), (2, 6)), (8, 12))

    def test_periods_one(self):
        self.assertEqual(common((0, 1), (5, 1)), (5, 1))
        self.assertEqual(common((9, 1), (2, 4)), (10, 4))
        self.assertEqual(common((2, 4), (9, 1)), (10, 4))

    def test_equal_periods(self):
        self.assertEqual(common((3, 7), (3, 7)), (3, 7))
        self.assertEqual(common((3, 7), (17, 7)), (17, 7))
        self.assertIsNone(common((3, 7), (18, 7)))

    def test_a_phase_greater_by_many_periods(self):
        self.assertEqual(common((1000, 3), (0, 5)), (1000, 15))
        self.assertEqual(common((1001, 3), (0, 5)), (1010, 15))
        self.assertEqual(common((0, 5), (1001, 3)), (1010, 15))
        self.assertEqual(common((10 ** 50, 3), (0, 5)), (10 ** 50, 15))
        self.assertEqual(common((2, 5), (10 ** 59 + 1, 3)), (10 ** 59 + 7, 15))

    def test_all_small_ones(self):
        for phase, other_phase in itertools.product((0, 1, 2, 5, 13, 40), repeat=2):
            for period, other_period in itertools.product((1, 2, 3, 4, 6, 9, 10, 12), repeat=2):
                one, other = (phase, period), (other_phase, other_period)
                self.assertEqual(common(one, other), seen_common(one, other), (one, other))

    def test_sixty_digits(self):
        source = random.Random(11)
        begun = time.process_time()
        for _ in range(300):
            meeting = source.randrange(HUGE)
            shared = source.choice([1, 6, 2 ** 64, source.randrange(1, 10 ** 30)])
            one_period, other_period = [shared * source.randrange(1, HUGE // shared) for _ in range(2)]
            one = (meeting % one_period, one_period)
            other = (meeting % other_period, other_period)
            first, every = common(one, other)
            self.assertEqual(every, math.lcm(one_period, other_period))
            self.assertTrue(fires(one, first) and fires(other, first))
            self.assertLess(first, max(one[0], other[0]) + every)
            self.assertEqual(common(other, one), (first, every))
        self.assertLess(time.process_time() - begun, 5)


class FirstOfTwo(unittest.TestCase):
    def test_ordinary(self):
        self.assertEqual(first_of_two(10, ["stack"], (0, 4), (0, 6), 12), 1)
        self.assertEqual(first_of_two(10, ["queue"], (0, 4), (0, 6), 12), 1)
        self.assertEqual(first_of_two(10, ["queue"], (0, 6), (0, 4), 12), 0)
        # The later one was set at 20, straight into the list in which it fires.
        self.assertEqual(first_of_two(10, ["stack"], (0, 4), (0, 6), 24), 0)
        self.assertEqual(first_of_two(10, ["stack"], (0, 6), (0, 4), 24), 1)

    def test_the_one_with_the_smaller_period_tells(self):
        for base, levels, period in itertools.product((2, 3, 10), LEVELS, (3, 7, 20)):
            tick = 12 * period
            front = side(base, levels, tick - period, tick) == "front"
            told = first_of_two(base, levels, (0, period), (0, 2 * period), tick)
            self.assertEqual(told, 0 if front else 1)

    def test_the_other_order_of_the_two(self):
        for base, levels, tick in itertools.product((2, 10), LEVELS, (12, 24, 36, 60, 120)):
            told = first_of_two(base, levels, (0, 4), (0, 6), tick)
            self.assertEqual(first_of_two(base, levels, (0, 6), (0, 4), tick), 1 - told)

    def test_kinds_of_values(self):
        for one, other in [((0, 4), (0, 6)), ((0, 6), (0, 4))]:
            self.assertIs(type(first_of_two(10, ["stack"], one, other, 12)), int)

    def test_a_wheel_that_goes_through_the_ticks(self):
        pairs = [((0, 4), (0, 6)), ((1, 3), (4, 5)), ((0, 1), (7, 10)), ((30, 4), (2, 7)), ((5, 16), (1, 2))]
        for base, levels, (one, other) in itertools.product((2, 3, 10), LEVELS, pairs):
            seen = run(base, levels, [one, other], 260)
            later = max(one[0], other[0])
            ticks = [tick for tick in seen if len(seen[tick]) == 2 and tick > later]
            self.assertGreater(len(ticks), 5)
            for tick in ticks:
                self.assertEqual(first_of_two(base, levels, one, other, tick), seen[tick][0], (base, levels, tick))
                self.assertEqual(first_of_two(base, levels, other, one, tick), 1 - seen[tick][0])

    def test_ticks_far_away(self):
        begun = time.process_time()
        far = 12 * 10 ** 58
        # All digits of this tick are 0 below level 58: it has one station, seen from four ticks before.
        self.assertEqual(first_of_two(10, ["stack"], (0, 4), (0, 6), far), 0)
        self.assertEqual(first_of_two(10, ["stack"], (0, 4), (0, 6), far + 12), 1)
        self.assertEqual(first_of_two(10, ["queue"] * 58 + ["stack"], (0, 4), (0, 6), far + 12), 1)
        self.assertEqual(first_of_two(10, ["queue"] * 58 + ["stack"], (0, 4), (0, 6), far), 0)
        self.assertEqual(first_of_two(2, ["stack"], (5, 10 ** 59), (5, 3 * 10 ** 59), 5 + 6 * 10 ** 59),
                         0 if side(2, ["stack"], 5 + 5 * 10 ** 59, 5 + 6 * 10 ** 59) == "front" else 1)
        self.assertLess(time.process_time() - begun, 2)


class WrongTicks(unittest.TestCase):
    def refused(self, one, other, tick):
        for pair in [(one, other), (other, one)]:
            with self.assertRaises(NoTick, msg=repr((pair, tick))):
                first_of_two(10, ["stack"], *pair, tick)

    def test_not_a_tick(self):
        for tick in not_ticks():
            self.refused((0, 4), (0, 6), tick)

    def test_not_a_common_tick(self):
        for tick in [1, 4, 6, 8, 11, 13, 18, 10 ** 59 + 1]:
            self.refused((0, 4), (0, 6), tick)
        for tick in range(20):
            self.refused((0, 2), (1, 4), tick)

    def test_before_a_phase(self):
        self.refused((100, 4), (0, 6), 48)
        self.refused((100, 4), (96, 6), 84)
        self.refused((48, 4), (48, 6), 36)

    def test_one_fires_for_the_first_time(self):
        self.refused((0, 4), (0, 6), 0)
        self.refused((24, 4), (0, 6), 24)
        self.refused((0, 4), (24, 6), 24)
        self.refused((24, 4), (24, 6), 24)
        self.assertEqual(first_of_two(10, ["queue"], (24, 4), (0, 6), 36), 1)

    def test_the_first_tick_at_which_both_fire_again(self):
        self.assertEqual(first_of_two(10, ["queue"], (0, 5), (5, 1), 10), 0)
        self.refused((0, 5), (5, 1), 5)


class WrongArguments(unittest.TestCase):
    def test_timers(self):
        for given in not_periodic():
            for call in (lambda: common(given, (3, 6)), lambda: common((3, 6), given), lambda: common(given, given),
                         lambda: first_of_two(10, ["stack"], given, (0, 6), 12),
                         lambda: first_of_two(10, ["stack"], (0, 4), given, 12),
                         lambda: first_of_two(10, ["stack"], given, given, 12)):
                with self.assertRaises(NoPeriod, msg=repr(given)):
                    call()

    def test_equal_periods(self):
        for one, other in [((0, 4), (0, 4)), ((0, 4), (8, 4)), ((0, 4), (1, 4)), ((0, 1), (0, 1))]:
            for tick in (16, 17, None):
                with self.assertRaises(NoPeriod):
                    first_of_two(10, ["stack"], one, other, tick)

    def test_bases_and_levels(self):
        for base in not_bases():
            with self.assertRaises(NoBase, msg=repr(base)):
                first_of_two(base, ["stack"], (0, 4), (0, 6), 12)
        for levels in not_levels():
            with self.assertRaises(NoLevels, msg=repr(levels)):
                first_of_two(10, levels, (0, 4), (0, 6), 12)

    def test_the_first_wrong_argument_tells(self):
        for wrong in (None, [], True, -1):
            with self.assertRaises(NoBase):
                first_of_two(wrong, wrong, wrong, wrong, wrong)
            with self.assertRaises(NoLevels):
                first_of_two(10, wrong, wrong, wrong, wrong)
            with self.assertRaises(NoPeriod):
                first_of_two(10, ["stack"], wrong, wrong, wrong)
            with self.assertRaises(NoPeriod):
                first_of_two(10, ["stack"], (0, 4), wrong, wrong)
            with self.assertRaises(NoPeriod):
                first_of_two(10, ["stack"], (0, 4), (0, 4), wrong)
            with self.assertRaises(NoTick):
                first_of_two(10, ["stack"], (0, 4), (0, 6), wrong)

    def test_arguments_are_not_changed(self):
        levels = ["stack", "queue", "queue"]
        first_of_two(10, levels, (0, 4), (0, 6), 12)
        self.assertEqual(levels, ["stack", "queue", "queue"])


if __name__ == "__main__":
    unittest.main()
