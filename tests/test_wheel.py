"""Points 2 to 5: a wheel, its timers, its lists and its advance."""

import inspect
import unittest

from timerdeque import wheel as module
from timerdeque.errors import NoBase, NoLevels, NoPeriod, NoTick, NoTimer, TooMany
from timerdeque.wheel import Wheel
from wrong import not_bases, not_levels, not_periods, not_ticks, not_timers

FAR = 10 ** 50


class Interface(unittest.TestCase):
    def test_arguments(self):
        self.assertEqual(str(inspect.signature(Wheel)), "(base, levels, *, start=0)")
        for name, arguments in [
                ("now", ""), ("put", "due, *, period=None"), ("cancel", "timer"), ("reset", "timer, due"),
                ("due", "timer"), ("timers", ""), ("advance", "tick"), ("lists", ""), ("firing", "tick"),
                ("lists_at", "tick"), ("restoring", ""), ("snapshot", ""), ("next_event", ""),
                ("next_firing", ""), ("moves_until", "tick"), ("__len__", ""), ("__eq__", "other")]:
            with self.subTest(name):
                self.assertIn(name, vars(Wheel))
                expected = "(self" + (", " + arguments if arguments else "") + ")"
                self.assertEqual(str(inspect.signature(vars(Wheel)[name])), expected)

    def test_defined_in_its_file(self):
        self.assertEqual(Wheel.__module__, "timerdeque.wheel")
        self.assertIs(module.Wheel, Wheel)

    def test_keyword_only(self):
        with self.assertRaises(TypeError):
            Wheel(10, ["stack"], 0)
        with self.assertRaises(TypeError):
            Wheel(10, ["stack"]).put(5, 2)

    def test_by_name(self):
        wheel = Wheel(levels=["stack"], start=3, base=10)
        self.assertEqual(wheel.put(due=205, period=None), 0)
        self.assertIsNone(wheel.reset(due=7, timer=0))
        self.assertEqual(wheel.due(timer=0), 7)
        self.assertEqual([wheel.firing(tick=7), wheel.lists_at(tick=7), wheel.moves_until(tick=7)], [[0], [], 0])
        self.assertEqual(wheel.advance(tick=6), [])
        self.assertIsNone(wheel.cancel(timer=0))


class NewWheels(unittest.TestCase):
    def test_empty(self):
        wheel = Wheel(10, ["stack"])
        self.assertEqual(wheel.now(), 0)
        self.assertEqual(len(wheel), 0)
        self.assertEqual([wheel.timers(), wheel.lists(), wheel.restoring()], [[], [], []])
        self.assertEqual([wheel.advance(FAR), wheel.now()], [[], FAR])

    def test_start(self):
        self.assertEqual(Wheel(10, ["stack"], start=205).now(), 205)
        self.assertEqual(Wheel(10, ["stack"], start=10 ** 60 - 2).now(), 10 ** 60 - 2)

    def test_the_least_and_the_greatest_base(self):
        for base, place in [(2, (11, 1)), (64, (1, 63))]:
            wheel = Wheel(base, ["queue"])
            wheel.put(63 * 64 + 5)
            self.assertEqual(wheel.lists(), [(*place, [0])])

    def test_the_levels_are_copied(self):
        levels = ["queue", "queue"]
        wheel = Wheel(10, levels)
        levels[0] = levels[1] = "stack"
        levels.append("nothing")
        self.assertEqual([wheel.put(5), wheel.put(5)], [0, 1])
        self.assertEqual(wheel.lists(), [(0, 5, [0, 1])])
        self.assertEqual(wheel.snapshot()[1], ["queue"])
        self.assertEqual(levels, ["stack", "stack", "nothing"])

    def test_levels_beyond_the_list_have_the_last_word(self):
        for levels, order in [(["queue", "stack"], [1, 0]), (["stack", "queue"], [0, 1]),
                              (["queue"] * 59 + ["stack"], [1, 0]), (["stack"] * 59 + ["queue"], [0, 1])]:
            wheel = Wheel(2, levels)
            wheel.put(2 ** 120)
            wheel.put(2 ** 120)
            self.assertEqual(wheel.lists(), [(120, 1, order)])

    def test_each_word_counts_at_its_own_level(self):
        wheel = Wheel(10, ["queue", "stack", "queue"])
        for due in (3, 3, 30, 30, 300, 300):
            wheel.put(due)
        self.assertEqual(wheel.lists(), [(0, 3, [0, 1]), (1, 3, [3, 2]), (2, 3, [4, 5])])

    def test_wrong_arguments(self):
        for base in not_bases():
            with self.assertRaises(NoBase, msg=repr(base)):
                Wheel(base, ["stack"])
        for levels in not_levels():
            with self.assertRaises(NoLevels, msg=repr(levels)):
                Wheel(10, levels)
        for start in not_ticks():
            with self.assertRaises(NoTick, msg=repr(start)):
                Wheel(10, ["stack"], start=start)

    def test_the_first_wrong_argument_tells(self):
        with self.assertRaises(NoBase):
            Wheel([], [], start=[])
        with self.assertRaises(NoBase):
            Wheel(start=None, levels=None, base=None)
        with self.assertRaises(NoLevels):
            Wheel(start=None, levels=("stack",), base=2)

    def test_limits(self):
        for base in (2, 64):
            self.assertEqual(len(Wheel(base, ["stack"] * 60)), 0)
        for base in (1, 65):
            with self.assertRaises(NoBase):
                Wheel(base, ["stack"])
        with self.assertRaises(NoLevels):
            Wheel(10, ["stack"] * 61)


class PutCancelReset(unittest.TestCase):
    def setUp(self):
        self.wheel = Wheel(10, ["stack"], start=3)
        for due in (205, 15, 205, 9):
            self.wheel.put(due)

    def state(self):
        return (self.wheel.snapshot(), self.wheel.lists(), self.wheel.timers())

    def raises_and_changes_nothing(self, error, call, *arguments, **more):
        before = self.state()
        with self.assertRaises(error, msg=repr((arguments, more))) as caught:
            call(*arguments, **more)
        self.assertIs(type(caught.exception), error)
        self.assertEqual(self.state(), before)

    def test_numbers(self):
        wheel = Wheel(10, ["queue"])
        self.assertEqual([wheel.put(7) for _ in range(4)], [0, 1, 2, 3])
        self.assertIs(type(wheel.put(7)), int)
        self.assertEqual(wheel.timers(), [0, 1, 2, 3, 4])

    def test_numbers_are_never_given_twice(self):
        self.wheel.cancel(3)
        self.assertEqual(self.wheel.put(20), 4)
        self.wheel.cancel(4)
        self.wheel.advance(300)
        self.assertEqual(len(self.wheel), 0)
        self.assertEqual(self.wheel.put(301), 5)
        self.raises_and_changes_nothing(NoTick, self.wheel.put, 300)
        self.assertEqual(self.wheel.put(301), 6)

    def test_timers_len_and_due(self):
        self.wheel.cancel(1)
        self.wheel.reset(0, 30)
        self.assertEqual(self.wheel.timers(), [0, 2, 3])
        self.assertEqual(len(self.wheel), 3)
        self.assertEqual([self.wheel.due(timer) for timer in (0, 2, 3)], [30, 205, 9])
        self.wheel.advance(9)
        self.assertEqual(self.wheel.timers(), [0, 2])

    def test_cancel(self):
        self.assertEqual(self.wheel.lists(), [(0, 9, [3]), (1, 1, [1]), (2, 2, [2, 0])])
        self.assertIsNone(self.wheel.cancel(2))
        self.assertEqual(self.wheel.lists(), [(0, 9, [3]), (1, 1, [1]), (2, 2, [0])])
        self.raises_and_changes_nothing(NoTimer, self.wheel.cancel, 2)
        self.assertEqual(self.wheel.advance(205), [(9, [3]), (15, [1]), (205, [0])])

    def test_cancel_of_a_periodic_timer(self):
        timer = self.wheel.put(10, period=5)
        self.wheel.advance(12)
        self.wheel.cancel(timer)
        self.assertEqual(self.wheel.advance(40), [(15, [1])])

    def test_reset_makes_it_the_one_that_was_set_last(self):
        self.wheel.put(205)
        self.assertEqual(self.wheel.lists()[-1], (2, 2, [4, 2, 0]))
        self.assertIsNone(self.wheel.reset(0, 205))
        self.assertEqual(self.wheel.lists()[-1], (2, 2, [0, 4, 2]))
        self.wheel.reset(4, 205)
        self.assertEqual(self.wheel.lists()[-1], (2, 2, [4, 0, 2]))
        self.assertEqual(self.wheel.put(99), 5)

    def test_reset_to_another_tick(self):
        self.wheel.reset(0, 16)
        self.assertEqual(self.wheel.lists(), [(0, 9, [3]), (1, 1, [0, 1]), (2, 2, [2])])
        self.wheel.advance(4)
        self.wheel.reset(3, 5)
        self.assertEqual(self.wheel.advance(10), [(5, [3])])

    def test_reset_counts_from_the_tick_of_the_reset(self):
        wheel = Wheel(10, ["stack"])
        for _ in range(3):
            wheel.put(205)
        wheel.advance(200)
        self.assertEqual(wheel.lists(), [(0, 5, [0, 1, 2])])
        wheel.reset(1, 205)
        self.assertEqual(wheel.advance(205), [(205, [1, 0, 2])])

    def test_reset_of_a_periodic_timer(self):
        wheel = Wheel(10, ["queue"])
        timer = wheel.put(10, period=7)
        wheel.reset(timer, 12)
        self.assertEqual(wheel.advance(13), [(12, [timer])])
        wheel.reset(timer, 14)
        self.assertEqual(wheel.snapshot()[4], [(timer, 14, 7)])
        self.assertEqual(wheel.advance(30), [(14, [timer]), (21, [timer]), (28, [timer])])

    def test_wrong_ticks(self):
        for due in not_ticks() + [0, 2, 3]:
            self.raises_and_changes_nothing(NoTick, self.wheel.put, due)
            self.raises_and_changes_nothing(NoTick, self.wheel.put, due, period=5)
            self.raises_and_changes_nothing(NoTick, self.wheel.reset, 1, due)
        self.assertEqual(self.wheel.put(4), 4)

    def test_wrong_periods(self):
        for period in not_periods():
            self.raises_and_changes_nothing(NoPeriod, self.wheel.put, 15, period=period)
        self.wheel.put(15, period=1)
        self.wheel.put(15, period=10 ** 60 - 1)

    def test_wrong_timers(self):
        for timer in not_timers() + [4]:
            self.raises_and_changes_nothing(NoTimer, self.wheel.cancel, timer)
            self.raises_and_changes_nothing(NoTimer, self.wheel.reset, timer, 15)
            self.raises_and_changes_nothing(NoTimer, self.wheel.due, timer)

    def test_true_is_not_the_timer_1(self):
        for timer in (True, False, 1.0, 0.0):
            for call in (self.wheel.cancel, self.wheel.due):
                self.raises_and_changes_nothing(NoTimer, call, timer)
            self.raises_and_changes_nothing(NoTimer, self.wheel.reset, timer, 15)

    def test_the_first_wrong_argument_tells(self):
        self.raises_and_changes_nothing(NoTick, self.wheel.put, 3, period=0)
        self.raises_and_changes_nothing(NoTick, self.wheel.put, [], period=[])
        self.raises_and_changes_nothing(NoTimer, self.wheel.reset, [], [])
        self.raises_and_changes_nothing(NoTimer, self.wheel.reset, 4, 3)

    def test_a_timer_that_fired_is_not_live(self):
        periodic = self.wheel.put(8, period=100)
        self.wheel.advance(9)
        for call in (self.wheel.due, self.wheel.cancel):
            self.raises_and_changes_nothing(NoTimer, call, 3)
        self.raises_and_changes_nothing(NoTimer, self.wheel.reset, 3, 50)
        self.assertEqual(self.wheel.due(periodic), 108)


class Lists(unittest.TestCase):
    def test_order_of_the_lists(self):
        wheel = Wheel(10, ["queue"])
        for due in (999, 105, 42, 31, 7, 2, 200, 43):
            wheel.put(due)
        self.assertEqual(wheel.lists(), [(0, 2, [5]), (0, 7, [4]), (1, 3, [3]), (1, 4, [2, 7]), (2, 1, [1]),
                                         (2, 2, [6]), (2, 9, [0])])

    def test_kinds_of_values(self):
        wheel = Wheel(10, ["queue"])
        wheel.put(42)
        [row] = wheel.lists()
        self.assertEqual([type(part) for part in row], [int, int, list])
        self.assertIs(type(row), tuple)

    def test_the_document_s_wheel(self):
        wheel = Wheel(10, ["stack"], start=3)
        wheel.put(205)
        wheel.advance(150)
        wheel.put(205)
        self.assertEqual(wheel.lists(), [(2, 2, [1, 0])])
        wheel.advance(199)
        self.assertEqual(wheel.lists(), [(2, 2, [1, 0])])
        wheel.advance(200)
        self.assertEqual(wheel.lists(), [(0, 5, [0, 1])])

    def test_timers_with_different_due_ticks_in_one_list(self):
        wheel = Wheel(10, ["stack", "queue"])
        for due in (215, 219, 212, 215):
            wheel.put(due)
        self.assertEqual(wheel.lists(), [(2, 2, [0, 1, 2, 3])])
        wheel.advance(209)
        self.assertEqual(wheel.lists(), [(1, 1, [0, 1, 2, 3])])
        wheel.advance(210)
        self.assertEqual(wheel.lists(), [(0, 2, [2]), (0, 5, [3, 0]), (0, 9, [1])])


class Advance(unittest.TestCase):
    def test_what_it_returns(self):
        wheel = Wheel(10, ["queue"])
        for due in (30, 5, 30, 12, 31):
            wheel.put(due)
        told = wheel.advance(30)
        self.assertEqual(told, [(5, [1]), (12, [3]), (30, [0, 2])])
        self.assertEqual({type(row) for row in told}, {tuple})
        self.assertEqual([wheel.now(), wheel.timers()], [30, [4]])

    def test_to_the_present_tick(self):
        wheel = Wheel(10, ["queue"], start=5)
        wheel.put(6)
        self.assertEqual(wheel.advance(wheel.now()), [])
        self.assertEqual([wheel.now(), wheel.timers()], [5, [0]])
        wheel.advance(6)
        self.assertEqual(wheel.advance(wheel.now()), [])

    def test_the_last_tick_passes_too(self):
        wheel = Wheel(10, ["queue"])
        wheel.put(6)
        self.assertEqual(wheel.advance(5), [])
        self.assertEqual(wheel.advance(6), [(6, [0])])

    def test_wrong_ticks(self):
        wheel = Wheel(10, ["queue"], start=5)
        wheel.put(6)
        before = wheel.snapshot()
        for tick in not_ticks() + [0, 4]:
            with self.assertRaises(NoTick, msg=repr(tick)):
                wheel.advance(tick)
            self.assertEqual(wheel.snapshot(), before)

    def test_stacks(self):
        wheel = Wheel(10, ["stack"])
        wheel.put(5)
        wheel.put(5)
        wheel.put(15)
        wheel.put(15)
        self.assertEqual(wheel.advance(20), [(5, [1, 0]), (15, [2, 3])])

    def test_a_periodic_timer_several_times_in_one_call(self):
        wheel = Wheel(10, ["stack"])
        wheel.put(3, period=4)
        self.assertEqual(wheel.advance(16), [(3, [0]), (7, [0]), (11, [0]), (15, [0])])
        self.assertEqual([wheel.due(0), wheel.timers()], [19, [0]])

    def test_a_periodic_timer_beside_others(self):
        wheel = Wheel(10, ["queue"])
        wheel.put(100, period=5)
        wheel.put(105)
        self.assertEqual(wheel.advance(105), [(100, [0]), (105, [1, 0])])
        wheel = Wheel(10, ["stack"])
        wheel.put(101, period=4)
        wheel.put(105)
        self.assertEqual(wheel.advance(105), [(101, [0]), (105, [0, 1])])

    def test_periodic_timers_are_set_again_in_the_order_in_which_they_fire(self):
        wheel = Wheel(10, ["stack"])
        for _ in range(3):
            wheel.put(3, period=2)
        self.assertEqual(wheel.advance(8), [(3, [2, 1, 0]), (5, [0, 1, 2]), (7, [2, 1, 0])])

    def test_a_period_of_one(self):
        wheel = Wheel(2, ["stack"])
        wheel.put(1, period=1)
        wheel.put(4)
        self.assertEqual(wheel.advance(5), [(1, [0]), (2, [0]), (3, [0]), (4, [0, 1]), (5, [0])])

    def test_far_ticks(self):
        wheel = Wheel(10, ["stack", "queue"])
        wheel.put(FAR * 5)
        wheel.put(FAR * 5 + 3, period=FAR)
        self.assertEqual(wheel.advance(FAR * 4), [])
        self.assertEqual(wheel.now(), FAR * 4)
        self.assertEqual(wheel.lists(), [(50, 5, [0, 1])])
        self.assertEqual(wheel.advance(FAR * 7), [(FAR * 5, [0]), (FAR * 5 + 3, [1]), (FAR * 6 + 3, [1])])
        self.assertEqual(wheel.due(1), FAR * 7 + 3)

    def test_ticks_of_sixty_digits(self):
        last = 10 ** 60 - 1
        wheel = Wheel(10, ["stack"], start=last - 10)
        self.assertEqual([wheel.put(last), wheel.put(last - 1), wheel.put(last)], [0, 1, 2])
        self.assertEqual(wheel.put(last - 10 + 1, period=last), 3)
        self.assertEqual(wheel.advance(last), [(last - 9, [3]), (last - 1, [1]), (last, [0, 2])])
        self.assertEqual(wheel.due(3), 2 * last - 9)
        wheel = Wheel(2, ["queue"])
        wheel.put(last)
        self.assertEqual(wheel.advance(last), [(last, [0])])

    def test_two_hundred_live_timers(self):
        wheel = Wheel(2, ["stack"])
        due = 10 ** 60 - 1
        for number in range(200):
            wheel.put(due - number % 2, period=None if number % 5 else 10 ** 59)
        self.assertEqual(len(wheel), 200)
        self.assertEqual(sum(len(numbers) for level, digit, numbers in wheel.lists()), 200)
        told = wheel.advance(due)
        self.assertEqual([tick for tick, numbers in told], [due - 1, due])
        self.assertEqual([sorted(numbers) for tick, numbers in told],
                         [list(range(1, 200, 2)), list(range(0, 200, 2))])
        self.assertEqual(wheel.timers(), list(range(0, 200, 5)))

    def test_two_thousand_firings(self):
        wheel = Wheel(10, ["stack"])
        wheel.put(1, period=1)
        self.assertEqual(wheel.advance(2000), [(tick, [0]) for tick in range(1, 2001)])
        before = (wheel.snapshot(), wheel.lists())
        for tick in (4001, 4002, FAR):
            with self.assertRaises(TooMany):
                wheel.advance(tick)
            self.assertEqual((wheel.snapshot(), wheel.lists()), before)
        self.assertEqual(len(wheel.advance(4000)), 2000)

    def test_firings_are_counted_not_ticks(self):
        wheel = Wheel(10, ["queue"])
        for _ in range(100):
            wheel.put(3, period=3)
        before = wheel.snapshot()
        with self.assertRaises(TooMany):
            wheel.advance(63)
        self.assertEqual(wheel.snapshot(), before)
        told = wheel.advance(62)
        self.assertEqual(sum(len(numbers) for tick, numbers in told), 2000)

    def test_2000_firings_at_ticks_with_several_timers_and_one_more(self):
        wheel = Wheel(10, ["queue"])
        wheel.put(10, period=10)
        wheel.put(10, period=10)
        wheel.put(10001)
        with self.assertRaises(TooMany):
            wheel.advance(10001)
        self.assertEqual([wheel.now(), wheel.due(0), wheel.timers()], [0, 10, [0, 1, 2]])
        self.assertEqual(sum(len(numbers) for tick, numbers in wheel.advance(10000)), 2000)
        self.assertEqual(wheel.advance(10001), [(10001, [2])])


class ReturnedLists(unittest.TestCase):
    def test_the_caller_may_change_them(self):
        wheel = Wheel(10, ["stack", "queue"])
        for due in (205, 205, 15, 3):
            wheel.put(due, period=4)
        for call in (wheel.timers, wheel.lists, wheel.restoring, wheel.snapshot,
                     lambda: wheel.firing(205), lambda: wheel.lists_at(12)):
            told = call()
            again = repr(told)
            self.spoil(told)
            self.assertEqual(repr(call()), again)

    def spoil(self, told):
        for part in told:
            if isinstance(part, (tuple, list)):
                self.spoil(part)
        if isinstance(told, list):
            told.append("spoilt")
            del told[0]

    def test_what_advance_returns(self):
        wheel = Wheel(10, ["stack"])
        wheel.put(5, period=5)
        wheel.put(5, period=5)
        before = wheel.advance(5)
        self.spoil(before)
        self.assertEqual(wheel.timers(), [0, 1])
        self.assertEqual(wheel.advance(10), [(10, [0, 1])])


if __name__ == "__main__":
    unittest.main()
