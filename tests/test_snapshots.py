"""Point 16: restored, with snapshot() and == of a wheel."""

import copy
import inspect
import itertools
import random
import unittest

from pair import LEVELS, Pair
from stepwheel import StepWheel
from timerdeque import snapshots as module
from timerdeque.errors import NoSnapshot, NoTick, NoTimer, TooMany
from timerdeque.snapshots import restored
from timerdeque.wheel import Wheel
from wrong import not_ticks, not_snapshots, not_timers

LAST = 10 ** 60 - 1
GOOD = (10, ["stack"], 3, 6, [(3, 9, None), (1, 15, 7), (0, 205, None), (2, 205, None), (4, 215, 10), (5, 217, None)])


def filled():
    return restored(copy.deepcopy(GOOD))


def changed(at, part):
    """The good snapshot with another part at this place."""
    return GOOD[:at] + (part,) + GOOD[at + 1:]


class Interface(unittest.TestCase):
    def test_arguments(self):
        self.assertEqual(str(inspect.signature(restored)), "(snapshot)")

    def test_defined_in_its_file(self):
        self.assertEqual(restored.__module__, "timerdeque.snapshots")
        self.assertIs(module.restored, restored)

    def test_by_name(self):
        self.assertEqual(restored(snapshot=GOOD).snapshot(), GOOD)

    def test_it_is_a_wheel(self):
        self.assertIs(type(restored(GOOD)), Wheel)
        self.assertIsNot(restored(GOOD), restored(GOOD))


class Restored(unittest.TestCase):
    def test_all_of_the_wheel(self):
        wheel = restored(GOOD)
        self.assertEqual(wheel.snapshot(), GOOD)
        self.assertEqual([wheel.now(), len(wheel), wheel.timers()], [3, 6, [0, 1, 2, 3, 4, 5]])
        self.assertEqual([wheel.due(timer) for timer in range(6)], [205, 15, 205, 9, 215, 217])
        self.assertEqual(wheel.lists(), [(0, 9, [3]), (1, 1, [1]), (2, 2, [5, 4, 2, 0])])
        self.assertEqual(wheel.put(4), 6)

    def test_it_goes_on_like_the_first_one(self):
        first = Wheel(10, ["stack"], start=3)
        for due, period in [(205, None), (15, 7), (205, None), (9, None), (215, 10), (217, None)]:
            first.put(due, period=period)
        wheel = restored(first.snapshot())
        for tick in (3, 9, 14, 50, 199, 200, 205, 210, 216, 300):
            self.assertEqual(wheel.advance(tick), first.advance(tick))
            self.assertEqual(wheel.lists(), first.lists())
            self.assertEqual(wheel.put(tick + 11, period=50), first.put(tick + 11, period=50))
            self.assertTrue(wheel == first)

    def test_an_empty_wheel(self):
        for given in [(2, ["queue"], 0, 0, []), (64, ["stack", "queue"], LAST, 0, []), (10, ["stack"], 7, 5, [])]:
            wheel = restored(given)
            self.assertEqual(wheel.snapshot(), given)
            self.assertEqual([wheel.now(), len(wheel), wheel.timers(), wheel.lists()], [given[2], 0, [], []])
            self.assertEqual(wheel.put(given[2] + 1), given[3])
        self.assertTrue(restored((2, ["queue"], 7, 0, [])) == Wheel(2, ["queue"], start=7))

    def test_cancelled_timers(self):
        first = Wheel(10, ["queue"])
        for due in (5, 6, 7, 8):
            first.put(due, period=due)
        for timer in (0, 3):
            first.cancel(timer)
        wheel = restored(first.snapshot())
        self.assertEqual([wheel.timers(), wheel.put(9), wheel.timers()], [[1, 2], 4, [1, 2, 4]])
        for timer in (0, 3):
            for call in (wheel.cancel, wheel.due):
                with self.assertRaises(NoTimer):
                    call(timer)
        for timer in (1, 2, 4):
            wheel.cancel(timer)
        self.assertEqual(restored(wheel.snapshot()).snapshot(), (10, ["queue"], 0, 5, []))

    def test_periodic_timers(self):
        wheel = restored((10, ["stack"], 3, 2, [(1, 5, 2), (0, 5, 4)]))
        self.assertEqual(wheel.advance(9), [(5, [0, 1]), (7, [1]), (9, [1, 0])])
        self.assertEqual(wheel.snapshot(), (10, ["stack"], 9, 2, [(1, 11, 2), (0, 13, 4)]))

    def test_each_live_timer_keeps_its_period(self):
        wheel = filled()
        wheel.reset(1, 20)
        wheel.reset(0, 21)
        self.assertEqual(wheel.advance(35), [(9, [3]), (20, [1]), (21, [0]), (27, [1]), (34, [1])])

    def test_the_order_of_the_rows(self):
        rows = [(0, 15, None), (1, 17, None), (2, 15, 3), (3, 15, None)]
        for order in itertools.permutations(rows):
            numbers = [number for number, due, period in order]
            queue = restored((10, ["queue"], 0, 4, list(order)))
            self.assertEqual(queue.lists(), [(1, 1, numbers)])
            self.assertEqual(queue.snapshot()[4], list(order))
            self.assertEqual(queue.firing(15), [number for number in numbers if number != 1])
            stack = restored((10, ["stack"], 0, 4, list(order)))
            self.assertEqual(stack.lists(), [(1, 1, numbers[::-1])])
            self.assertEqual(stack.snapshot()[4], list(order))
            self.assertEqual(stack.firing(15), [number for number in numbers if number != 1])
            mixed = restored((10, ["queue", "stack"], 0, 4, list(order)))
            self.assertEqual(mixed.firing(15), [number for number in numbers[::-1] if number != 1])

    def test_rows_that_are_not_list_by_list(self):
        one = restored((10, ["stack"], 3, 5, [(2, 205, None), (3, 9, None), (0, 205, 8), (1, 15, None)]))
        other = restored((10, ["stack"], 3, 5, [(1, 15, None), (2, 205, None), (0, 205, 8), (3, 9, None)]))
        self.assertTrue(one == other)
        self.assertEqual(one.snapshot()[4], [(3, 9, None), (1, 15, None), (2, 205, None), (0, 205, 8)])
        self.assertEqual(one.advance(205), other.advance(205))

    def test_levels_told_longer_than_needed(self):
        for levels in (["stack"] * 2, ["stack"] * 60):
            wheel = restored(changed(1, levels))
            self.assertEqual(wheel.snapshot(), GOOD)
            self.assertTrue(wheel == filled())
        for many in (3, 60):
            levels = ["queue"] + ["stack"] * (many - 1)
            self.assertEqual(restored(changed(1, levels)).snapshot()[1], ["queue", "stack"])
        self.assertEqual(restored(changed(1, ["queue", "stack", "queue"])).snapshot()[1], ["queue", "stack", "queue"])

    def test_far_ticks(self):
        rows = [(7, LAST, 10 ** 59), (3, LAST, None), (9, LAST - 1, LAST), (0, LAST, 1)]
        for base, levels in itertools.product((2, 10, 64), LEVELS):
            wheel = restored((base, levels, LAST - 5 * base, LAST, rows))
            self.assertTrue(restored(wheel.snapshot()) == wheel)
            order = wheel.firing(LAST)
            self.assertEqual(wheel.advance(LAST), [(LAST - 1, [9]), (LAST, order)])
            self.assertEqual(sorted(order), [0, 3, 7])
            self.assertEqual([wheel.due(timer) for timer in (0, 7, 9)], [LAST + 1, LAST + 10 ** 59, 2 * LAST - 1])
            self.assertEqual(wheel.put(LAST + 5), LAST)
            self.assertTrue(restored(wheel.snapshot()) == wheel)

    def test_edges(self):
        self.assertEqual(restored((2, ["queue"], 0, 1, [(0, 1, 1)])).advance(2), [(1, [0]), (2, [0])])
        self.assertEqual(restored((64, ["queue"], 5, 9, [(8, 6, None)])).timers(), [8])
        self.assertEqual(len(restored((10, ["queue"], 0, 200, [(number, 7, None) for number in range(200)]))), 200)


class Independent(unittest.TestCase):
    def test_the_snapshot_is_not_changed(self):
        given = copy.deepcopy(GOOD)
        wheel = restored(given)
        wheel.advance(16)
        wheel.cancel(0)
        wheel.put(300)
        wheel.reset(5, 217)
        self.assertEqual(given, GOOD)

    def test_the_wheel_copies_it(self):
        levels, rows = ["queue", "stack"], [(0, 15, None), (1, 15, 5)]
        wheel = restored((10, levels, 0, 2, rows))
        before = wheel.snapshot()
        levels[0] = "stack"
        levels.append("queue")
        rows.append((7, 3, None))
        del rows[0]
        self.assertEqual(wheel.snapshot(), before)
        self.assertEqual(wheel.advance(15), [(15, [1, 0])])

    def test_two_wheels_of_one_snapshot(self):
        one, other = restored(GOOD), restored(GOOD)
        self.assertTrue(one == other)
        one.put(50)
        one.advance(20)
        self.assertEqual(other.snapshot(), GOOD)
        other.cancel(4)
        self.assertEqual(one.due(4), 215)

    def test_the_first_wheel_goes_its_own_way(self):
        first = filled()
        told = first.snapshot()
        wheel = restored(told)
        first.advance(300)
        self.assertEqual(wheel.snapshot(), GOOD)
        self.assertEqual(told, GOOD)


class Equal(unittest.TestCase):
    def test_restored_is_equal(self):
        self.assertIs(restored(filled().snapshot()) == filled(), True)
        self.assertIs(restored(filled().snapshot()) != filled(), False)

    def test_one_difference(self):
        rows = GOOD[4]
        others = [changed(0, 11), changed(1, ["queue"]), changed(1, ["stack", "queue"]), changed(1, ["stack"] * 59 + ["queue"]),
                  changed(2, 4), changed(3, 7), changed(4, rows[1:]), changed(4, rows[:-1]), changed(4, []),
                  changed(4, [(3, 8, None)] + rows[1:]), changed(4, [(3, 9, 1)] + rows[1:]),
                  changed(4, [rows[0], (1, 15, 8)] + rows[2:]), changed(4, [rows[0], (1, 15, None)] + rows[2:]),
                  changed(4, [rows[0], (1, 16, 7)] + rows[2:]), changed(4, rows[:2] + [rows[3], rows[2]] + rows[4:]),
                  changed(4, rows[::-1]), changed(4, rows[:4] + [rows[5], rows[4]])]
        for other in others:
            self.assertIs(restored(other) == filled(), False, other)
            self.assertIs(restored(other) != filled(), True, other)
            self.assertIs(filled() == restored(other), False, other)
            self.assertTrue(restored(other) == restored(other), other)

    def test_other_numbers(self):
        one = restored((10, ["queue"], 0, 9, [(4, 5, None)]))
        other = restored((10, ["queue"], 0, 9, [(5, 5, None)]))
        self.assertFalse(one == other)

    def test_a_snapshot_is_not_a_wheel(self):
        wheel = filled()
        for other in (wheel.snapshot(), GOOD, list(GOOD), GOOD[4], None, "wheel"):
            self.assertIs(wheel == other, False)
            self.assertIs(wheel != other, True)
            self.assertIs(other == wheel, False)

    def test_the_same_by_other_calls(self):
        rows = [(3, 15, None), (1, 17, 4), (2, 15, None)]
        one = restored((10, ["queue", "stack"], 5, 4, rows))
        other = Wheel(10, ["queue", "stack", "stack"], start=0)
        for due in (1, 10, 11, 12):
            other.put(due, period=4 if due == 10 else None)
        self.assertEqual(other.advance(5), [(1, [0])])
        for number, due, period in rows:
            other.reset(number, due)
        self.assertTrue(one == other)
        self.assertEqual(one.advance(40), other.advance(40))
        self.assertTrue(one == other)

    def test_equal_wheels_return_the_same_for_all_calls(self):
        source = random.Random(22)
        for base, levels in itertools.product((2, 3, 10), LEVELS):
            one = Wheel(base, levels)
            for _ in range(12):
                one.put(one.now() + source.randint(1, 90), period=source.choice([None, 4, 9]))
                one.advance(one.now() + source.randint(0, 6))
            other = restored(one.snapshot())
            for timer in one.timers():
                self.assertEqual(one.due(timer), other.due(timer))
            for tick in range(one.now(), one.now() + 120):
                self.assertEqual(one.lists_at(tick), other.lists_at(tick))
                self.assertEqual(one.moves_until(tick), other.moves_until(tick))
                self.assertEqual(one.firing(tick + 1), other.firing(tick + 1))
            for name in ("now", "timers", "lists", "restoring", "snapshot", "next_event", "next_firing", "__len__"):
                self.assertEqual(getattr(one, name)(), getattr(other, name)())
            self.assertEqual(one.advance(one.now() + 100), other.advance(other.now() + 100))
            self.assertTrue(one == other)


class Errors(unittest.TestCase):
    def test_each_part_spoilt(self):
        for given in not_snapshots():
            with self.assertRaises(NoSnapshot, msg=repr(given)) as caught:
                restored(given)
            self.assertIs(type(caught.exception), NoSnapshot)

    def test_several_parts_spoilt(self):
        wrong = [1, ("stack",), -1, -1, [(0, 0, 0)]]
        for places in itertools.product((False, True), repeat=5):
            given = tuple(wrong[at] if places[at] else GOOD[at] for at in range(5))
            if any(places):
                with self.assertRaises(NoSnapshot, msg=repr(given)):
                    restored(given)

    def test_bools_are_not_integers(self):
        for given in [(10, ["stack"], False, 1, []), (10, ["stack"], 0, True, []), (10, ["stack"], 0, False, []),
                      (10, ["stack"], 0, 2, [(True, 5, None)]), (10, ["stack"], 0, 2, [(False, 5, None)]),
                      (10, ["stack"], 0, 2, [(1, True, None)]), (10, ["stack"], 0, 2, [(1, 5, True)])]:
            with self.assertRaises(NoSnapshot, msg=repr(given)):
                restored(given)

    def test_the_same_number_twice(self):
        for rows in ([(0, 5, None), (0, 5, None)], [(0, 5, None), (1, 5, None), (0, 6, 7)], [(1, 5, None)] * 3):
            with self.assertRaises(NoSnapshot):
                restored((10, ["stack"], 0, 9, rows))

    def test_a_call_that_raises_changes_nothing(self):
        for at, part in [(0, 1), (1, ["none"]), (2, 9), (3, 5), (4, [(0, 205, None), (0, 205, None)])]:
            given = copy.deepcopy(changed(at, part))
            before = copy.deepcopy(given)
            with self.assertRaises(NoSnapshot):
                restored(given)
            self.assertEqual(given, before)

    def test_a_restored_wheel_refuses_as_the_first_one(self):
        wheel = filled()
        for due in not_ticks() + [0, 3]:
            with self.assertRaises(NoTick):
                wheel.put(due)
        for timer in not_timers() + [6]:
            with self.assertRaises(NoTimer):
                wheel.reset(timer, 5)
        with self.assertRaises(TooMany):
            wheel.advance(10 ** 50)
        self.assertEqual(wheel.snapshot(), GOOD)


class Steps(Pair):
    """Restored again and again, beside a wheel that goes through the ticks."""

    def start_from(self, snapshot):
        base, levels, now, following, rows = snapshot
        self.wheel, self.steps = restored(snapshot), StepWheel(base, levels, now)
        for number, due, period in rows:
            self.steps.set(number, due, period)
        self.steps.following = following

    def test_random_snapshots(self):
        source = random.Random(23)
        for base, levels in itertools.product((2, 3, 10), LEVELS):
            for now in (0, 5, 26, 99):
                numbers = source.sample(range(15), 8)
                self.start_from((base, levels, now, 15, [
                    (number, now + source.randint(1, 120), source.choice([None, None, 1, 6, 30])) for number in numbers]))
                self.same_now()
                self.same_ahead(125)
                self.same_events()
                self.advance(now + 130)
                self.same_now()

    def test_restored_on_the_way(self):
        source = random.Random(24)
        for base, levels in itertools.product((2, 3, 4, 10), LEVELS):
            self.start(base, levels, start=source.choice([0, 7, 99]))
            for _ in range(50):
                self.one_random_change(source, source.choice([5, 40, 150]))
                again = restored(self.wheel.snapshot())
                self.assertTrue(again == self.wheel)
                self.assertEqual(again.snapshot(), self.wheel.snapshot())
                self.wheel = again
                self.same_now()
            self.same_ahead(160)


if __name__ == "__main__":
    unittest.main()
