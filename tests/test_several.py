"""Point 18: order_at and times_first."""

import inspect
import itertools
import math
import random
import time
import unittest

from periodic import LEVELS, fires, run
from stepwheel import StepWheel
from timerdeque import periods
from timerdeque.errors import NoBase, NoLevels, NoPeriod, NoTick, TooMany
from timerdeque.periods import common, first_of_two, order_at, times_first
from wrong import not_bases, not_levels, not_periodic, not_several, not_ticks

TWELVE = [(0, 2), (0, 12), (1, 1), (3, 3), (0, 4), (2, 5), (0, 6), (12, 60), (4, 8), (0, 15), (1, 7), (9, 9)]


class Interface(unittest.TestCase):
    def test_arguments(self):
        self.assertEqual(str(inspect.signature(order_at)), "(base, levels, some, tick)")
        self.assertEqual(str(inspect.signature(times_first)), "(base, levels, one, other, first, behind)")

    def test_defined_in_their_file(self):
        for made in (order_at, times_first):
            self.assertEqual(made.__module__, "timerdeque.periods")
            self.assertIs(getattr(periods, made.__name__), made)

    def test_by_name(self):
        self.assertEqual(order_at(tick=12, some=[(0, 4), (0, 6), (0, 3)], levels=["stack"], base=10), [1, 0, 2])
        self.assertEqual(times_first(behind=50, first=0, other=(0, 4), one=(0, 6), levels=["queue"], base=10), 4)


class OrderAt(unittest.TestCase):
    def test_ordinary(self):
        self.assertEqual(order_at(10, ["stack"], [(0, 4), (0, 6), (0, 3)], 12), [1, 0, 2])
        self.assertEqual(order_at(10, ["queue"], [(0, 4), (0, 6), (0, 3)], 12), [1, 0, 2])
        self.assertEqual(order_at(10, ["queue"], [(0, 3), (0, 4), (0, 6)], 12), [2, 1, 0])
        self.assertEqual(order_at(10, ["stack"], [(0, 4), (0, 6), (0, 3)], 24), [2, 0, 1])
        self.assertEqual(order_at(10, ["stack"], [(0, 4), (0, 6), (0, 3)], 36), [2, 0, 1])
        self.assertEqual(order_at(10, ["stack"], [(0, 4), (0, 6), (0, 3)], 18), [2, 1])

    def test_one_timer(self):
        self.assertEqual(order_at(10, ["stack"], [(0, 4)], 4), [0])
        self.assertEqual(order_at(10, ["stack"], [(3, 4)], 4), [])
        self.assertEqual(order_at(10, ["stack"], [(3, 1)], 4), [0])
        self.assertEqual(order_at(10, ["queue"], [(9, 5)], 4), [])

    def test_none_fires_there(self):
        for tick in (1, 5, 7, 10 ** 59 + 1):
            self.assertEqual(order_at(10, ["stack"], [(0, 4), (0, 6), (0, 2 * 10 ** 59)], tick), [])
        self.assertEqual(order_at(10, ["stack"], [(1, 12), (2, 13)], 0), [])
        self.assertEqual(order_at(10, ["stack"], TWELVE[1:2] + TWELVE[4:5], 11), [])

    def test_a_phase_after_the_tick(self):
        self.assertEqual(order_at(10, ["queue"], [(20, 2), (0, 3), (100, 4)], 12), [1])
        self.assertEqual(order_at(10, ["queue"], [(16, 2), (16, 4)], 12), [])

    def test_twelve_timers(self):
        for base, levels in itertools.product((2, 3, 10), LEVELS):
            seen = run(base, levels, TWELVE, 200)
            for tick in range(13, 200):
                self.assertEqual(order_at(base, levels, TWELVE, tick), seen.get(tick, []), (base, levels, tick))
        every = [(0, period) for period in range(1, 13)]
        self.assertEqual(order_at(10, ["queue"], every, 27720), list(range(12))[::-1])
        self.assertEqual(order_at(10, ["stack"], every, 27720), list(range(12)))

    def test_a_wheel_that_goes_through_the_ticks(self):
        source = random.Random(18)
        for _ in range(60):
            base, levels = source.choice([2, 3, 4, 10]), source.choice(LEVELS)
            many = source.randint(1, 12)
            some = [(source.randrange(15), period) for period in source.sample(range(1, 20), many)]
            seen = run(base, levels, some, 160)
            for tick in range(160):
                if any(tick == phase for phase, period in some):
                    with self.assertRaises(NoTick):
                        order_at(base, levels, some, tick)
                else:
                    self.assertEqual(order_at(base, levels, some, tick), seen.get(tick, []), (base, levels, some, tick))

    def test_a_stepping_wheel_with_all_phases_after_its_start(self):
        some = [(5, 6), (1, 4), (3, 2), (2, 3), (9, 1)]
        for base, levels in itertools.product((2, 3, 10), LEVELS):
            wheel = StepWheel(base, levels)
            for phase, period in some:
                wheel.put(phase, period)
            wheel.advance(9)
            for tick in range(10, 150):
                self.assertEqual(order_at(base, levels, some, tick), wheel.pass_one())

    def test_two_timers_as_first_of_two_has_them(self):
        for base, levels, tick in itertools.product((2, 10), LEVELS, (12, 24, 120, 12 * 10 ** 58)):
            told = order_at(base, levels, [(0, 4), (0, 6)], tick)
            self.assertEqual(told[0], first_of_two(base, levels, (0, 4), (0, 6), tick))

    def test_sixty_digits(self):
        begun = time.process_time()
        some = [(0, 10 ** level) for level in range(48, 60)]
        tick = 6 * 10 ** 59
        # The highest level is the only station of each.
        self.assertEqual(order_at(10, ["stack"], some, tick), list(range(12)))
        self.assertEqual(order_at(10, ["queue"], some, tick), list(range(12))[::-1])
        # Each one goes through all levels below its own, so that every second one goes in front.
        tick = int("1" * 60)
        some = [(tick % 10 ** level, 10 ** level) for level in range(48, 60)]
        self.assertEqual(order_at(10, ["stack"], some, tick), [0, 2, 4, 6, 8, 10, 11, 9, 7, 5, 3, 1])
        self.assertLess(time.process_time() - begun, 2)

    def test_the_returned_list_is_new(self):
        some = [(0, 4), (0, 6), (0, 3)]
        for tick in (12, 13):
            told = order_at(10, ["stack"], some, tick)
            self.assertIs(type(told), list)
            self.assertEqual({type(index) for index in told} | {int}, {int})
            told.append(7)
            self.assertEqual(order_at(10, ["stack"], some, tick), told[:-1])
        self.assertEqual(some, [(0, 4), (0, 6), (0, 3)])

    def test_one_fires_for_the_first_time(self):
        for some, tick in [([(0, 4)], 0), ([(0, 4), (1, 5)], 0), ([(12, 4), (0, 6)], 12), ([(0, 6), (0, 5), (12, 4)], 12),
                           ([(12, 1), (12, 2)], 12), ([(1, 10 ** 59), (10 ** 59, 7)], 10 ** 59)]:
            with self.assertRaises(NoTick, msg=repr((some, tick))):
                order_at(10, ["stack"], some, tick)


class TimesFirst(unittest.TestCase):
    def counted(self, base, levels, one, other, first, behind):
        """By first_of_two, tick by tick."""
        later = max(one[0], other[0])
        ticks = [tick for tick in range(first, behind) if tick > later and fires(one, tick) and fires(other, tick)]
        return len([tick for tick in ticks if first_of_two(base, levels, one, other, tick) == 0])

    def test_ordinary(self):
        self.assertEqual(times_first(10, ["queue"], (0, 6), (0, 4), 0, 50), 4)
        self.assertEqual(times_first(10, ["queue"], (0, 4), (0, 6), 0, 50), 0)
        self.assertEqual(times_first(10, ["stack"], (0, 4), (0, 6), 0, 13), 0)
        self.assertEqual(times_first(10, ["stack"], (0, 4), (0, 6), 0, 25), 1)
        self.assertEqual(times_first(10, ["stack"], (0, 6), (0, 4), 0, 25), 1)
        self.assertEqual(times_first(10, ["stack"], (0, 2), (1, 2 * 10 ** 50), 0, 10 ** 59), 0)

    def test_ends(self):
        for first, behind, told in [(12, 13, 1), (12, 12, 0), (13, 24, 0), (13, 25, 1), (11, 12, 0), (24, 36, 1)]:
            self.assertEqual(times_first(10, ["queue"], (0, 6), (0, 4), first, behind), told, (first, behind))

    def test_an_empty_range(self):
        for tick in (0, 5, 12, 10 ** 59):
            self.assertEqual(times_first(10, ["stack"], (0, 4), (0, 6), tick, tick), 0)
            self.assertEqual(times_first(10, ["stack"], (0, 4), (1, 6), tick, tick), 0)

    def test_no_common_tick(self):
        self.assertEqual(times_first(10, ["queue"], (0, 4), (1, 6), 0, 10 ** 59), 0)
        self.assertEqual(times_first(10, ["queue"], (1, 6), (0, 4), 0, 10 ** 59), 0)

    def test_a_first_time_does_not_count(self):
        self.assertEqual(times_first(10, ["queue"], (0, 6), (0, 4), 0, 12), 0)
        self.assertEqual(times_first(10, ["queue"], (0, 6), (0, 4), 0, 1), 0)
        self.assertEqual(times_first(10, ["queue"], (24, 6), (0, 4), 0, 37), 1)
        self.assertEqual(times_first(10, ["queue"], (24, 6), (0, 4), 24, 36), 0)
        self.assertEqual(times_first(10, ["queue"], (0, 6), (24, 4), 24, 36), 0)
        self.assertEqual(times_first(10, ["queue"], (0, 6), (24, 4), 0, 49), 2)

    def test_small_ones_tick_by_tick(self):
        source = random.Random(19)
        for _ in range(400):
            base, levels = source.choice([2, 3, 10]), source.choice(LEVELS)
            one, other = [(source.randrange(40), period) for period in source.sample(range(1, 16), 2)]
            first = source.randrange(120)
            given = (base, levels, one, other, first, first + source.randrange(200))
            self.assertEqual(times_first(*given), self.counted(*given), given)

    def test_a_wheel_that_goes_through_the_ticks(self):
        for base, levels in itertools.product((2, 3, 10), LEVELS):
            for one, other in [((0, 4), (0, 6)), ((0, 6), (0, 4)), ((7, 3), (1, 5)), ((20, 1), (3, 2)), ((3, 10), (8, 5))]:
                seen = run(base, levels, [one, other], 200)
                later = max(one[0], other[0])
                for first, behind in [(0, 200), (20, 100), (later, later + 30), (later + 1, 150)]:
                    told = [tick for tick in seen if first <= tick < behind and tick > later and seen[tick] == [0, 1]]
                    self.assertEqual(times_first(base, levels, one, other, first, behind), len(told))

    def test_the_two_orders_share_the_common_ticks(self):
        for base, levels in itertools.product((2, 10), LEVELS):
            one, other = (3, 10 ** 40), (3, 3 * 10 ** 39)
            first, every = common(one, other)
            ends = (first + 10 ** 12 * every, first + (10 ** 12 + 1500) * every)
            self.assertEqual(times_first(base, levels, one, other, *ends)
                             + times_first(base, levels, other, one, *ends), 1500)

    def test_ranges_beside_one_another_add_up(self):
        for base, levels in itertools.product((2, 10), LEVELS):
            parts = [times_first(base, levels, (0, 4), (0, 6), at, at + 50) for at in range(0, 5000, 50)]
            self.assertEqual(times_first(base, levels, (0, 4), (0, 6), 0, 5000), sum(parts))

    def test_sixty_digits(self):
        begun = time.process_time()
        one, other = (5, 10 ** 28 + 1), (7, 10 ** 28 + 3)
        first, every = common(one, other)
        self.assertLess(first, 10 ** 60)
        self.assertEqual(every, math.lcm(one[1], other[1]))
        wide = [times_first(2, ["stack", "queue"], *pair, 0, first + 1) for pair in [(one, other), (other, one)]]
        self.assertEqual(sorted(wide), [0, 1])
        self.assertEqual(times_first(2, ["stack"], one, other, 0, first), 0)
        self.assertLess(time.process_time() - begun, 2)


class TooManyTicks(unittest.TestCase):
    def test_exactly_2000_and_2001(self):
        for one, other in [((0, 6), (0, 4)), ((0, 12), (0, 6)), ((0, 12), (0, 1))]:
            self.assertEqual(times_first(10, ["queue"], one, other, 12, 12 + 2000 * 12), 2000)
            self.assertEqual(times_first(10, ["queue"], other, one, 12, 12 + 2000 * 12), 0)
            self.assertEqual(times_first(10, ["queue"], one, other, 1, 2000 * 12 + 12), 2000)
            for first, behind in [(12, 13 + 2000 * 12), (1, 2001 * 12 + 1), (10 ** 59, 10 ** 59 + 2001 * 12)]:
                for pair in [(one, other), (other, one)]:
                    with self.assertRaises(TooMany):
                        times_first(10, ["queue"], *pair, first, behind)

    def test_first_times_count(self):
        # At 0 both fire for the first time: 2001 ticks, of which 2000 can tell.
        for given in [(0, 24001), (0, 10 ** 59)]:
            with self.assertRaises(TooMany):
                times_first(10, ["queue"], (0, 6), (0, 4), *given)
        self.assertEqual(times_first(10, ["queue"], (0, 6), (0, 4), 0, 24000), 1999)
        # At 120 one of them fires for the first time.
        with self.assertRaises(TooMany):
            times_first(10, ["queue"], (120, 6), (0, 4), 0, 24121)
        self.assertEqual(times_first(10, ["queue"], (120, 6), (0, 4), 0, 24120), 1999)

    def test_ticks_before_a_phase_do_not_count(self):
        self.assertEqual(times_first(10, ["queue"], (24000, 6), (0, 4), 0, 24000 + 2000 * 12), 1999)
        self.assertEqual(times_first(10, ["queue"], (10 ** 59, 6), (0, 4), 0, 10 ** 59 - 1), 0)

    def test_ticks_at_which_one_alone_fires_do_not_count(self):
        self.assertEqual(times_first(10, ["queue"], (0, 10 ** 58), (0, 1), 0, 10 ** 59), 9)

    def test_far_away(self):
        begun = time.process_time()
        for behind in (10 ** 59, 10 ** 60 - 1):
            with self.assertRaises(TooMany):
                times_first(2, ["stack"], (0, 1), (0, 2), 0, behind)
        at = 10 ** 60 - 10 ** 32
        times_first(2, ["stack"], (0, 10 ** 28), (0, 2 * 10 ** 28), at, at + 2000 * 2 * 10 ** 28)
        self.assertLess(time.process_time() - begun, 3)


class WrongArguments(unittest.TestCase):
    def test_lists_of_timers(self):
        for given in not_several():
            for tick in (12, 0, None):
                with self.assertRaises(NoPeriod, msg=repr(given)):
                    order_at(10, ["stack"], given, tick)

    def test_timers(self):
        for given in not_periodic():
            for pair in [(given, (0, 6)), ((0, 4), given), (given, given)]:
                with self.assertRaises(NoPeriod, msg=repr(given)):
                    times_first(10, ["stack"], *pair, 0, 50)

    def test_equal_periods(self):
        for one, other in [((0, 4), (0, 4)), ((0, 4), (8, 4)), ((0, 4), (1, 4))]:
            for ends in [(0, 50), (0, 0), (50, 0), (None, None), (0, 10 ** 59)]:
                with self.assertRaises(NoPeriod):
                    times_first(10, ["stack"], one, other, *ends)

    def test_no_period_goes_first(self):
        for some, tick in [([(0, 4), (12, 4)], 12), ([(0, 4), (0, 6), (1, 4)], 0), ([(12, 4), (0, 0)], 12)]:
            with self.assertRaises(NoPeriod):
                order_at(10, ["stack"], some, tick)

    def test_bases_and_levels(self):
        for base in not_bases():
            with self.assertRaises(NoBase, msg=repr(base)):
                order_at(base, ["stack"], [(0, 4)], 12)
            with self.assertRaises(NoBase, msg=repr(base)):
                times_first(base, ["stack"], (0, 4), (0, 6), 0, 50)
        for levels in not_levels():
            with self.assertRaises(NoLevels, msg=repr(levels)):
                order_at(10, levels, [(0, 4)], 12)
            with self.assertRaises(NoLevels, msg=repr(levels)):
                times_first(10, levels, (0, 4), (0, 6), 0, 50)

    def test_ticks(self):
        for tick in not_ticks():
            for some in ([(0, 4), (0, 6)], [(9, 5)]):
                with self.assertRaises(NoTick, msg=repr(tick)):
                    order_at(10, ["stack"], some, tick)
            for other in ((0, 6), (1, 6)):
                for ends in [(tick, 50), (0, tick), (tick, tick)]:
                    with self.assertRaises(NoTick, msg=repr(tick)):
                        times_first(10, ["stack"], (0, 4), other, *ends)

    def test_behind_is_not_less_than_first(self):
        for first, behind in [(1, 0), (50, 49), (10 ** 59, 12), (13, 12)]:
            for other in ((0, 6), (1, 6)):
                with self.assertRaises(NoTick):
                    times_first(10, ["stack"], (0, 4), other, first, behind)

    def test_the_first_wrong_argument_tells(self):
        for wrong in (None, [], True, -1):
            for error, given in [(NoBase, (wrong, wrong, wrong, wrong)), (NoLevels, (10, wrong, wrong, wrong)),
                                 (NoPeriod, (10, ["stack"], wrong, wrong)), (NoTick, (10, ["stack"], [(0, 4)], wrong))]:
                with self.assertRaises(error):
                    order_at(*given)
            for at, error in enumerate([NoBase, NoLevels, NoPeriod, NoPeriod, NoTick, NoTick]):
                given = [10, ["stack"], (0, 4), (0, 6), 0, 50][:at] + [wrong] * (6 - at)
                with self.assertRaises(error):
                    times_first(*given)

    def test_arguments_are_not_changed(self):
        levels, some = ["stack", "queue", "queue"], [(0, 4), (0, 6), (0, 3)]
        order_at(10, levels, some, 12)
        times_first(10, levels, some[0], some[1], 0, 50)
        self.assertEqual((levels, some), (["stack", "queue", "queue"], [(0, 4), (0, 6), (0, 3)]))


if __name__ == "__main__":
    unittest.main()
