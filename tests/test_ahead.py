"""Points 8, 9, 16 and 17: what a wheel tells of later ticks, and of all of itself."""

import unittest

from timerdeque.errors import NoTick
from timerdeque.wheel import Wheel
from wrong import not_ticks, others

FAR = 10 ** 50


def filled(levels=("stack",), base=10, start=3):
    wheel = Wheel(base, list(levels), start=start)
    for due, period in [(205, None), (15, 7), (205, None), (9, None), (215, 10), (217, None)]:
        wheel.put(due, period=period)
    return wheel


class LookingAhead(unittest.TestCase):
    def test_firing(self):
        wheel = filled()
        self.assertEqual([wheel.firing(tick) for tick in (4, 9, 15, 205, 215)], [[], [3], [1], [0, 2], [4]])
        self.assertEqual(wheel.firing(FAR), [])

    def test_firing_with_stacks_and_queues(self):
        for levels, order in [(["stack"], [0, 1]), (["queue"], [0, 1]), (["queue", "stack"], [1, 0]),
                              (["stack", "queue"], [1, 0])]:
            wheel = Wheel(10, levels)
            wheel.put(15)
            wheel.put(15)
            self.assertEqual(wheel.firing(15), order)

    def test_a_periodic_timer_counts_with_its_next_due_tick_alone(self):
        wheel = filled()
        self.assertEqual([wheel.firing(tick) for tick in (22, 29, 225)], [[], [], []])
        self.assertEqual(wheel.lists_at(15), [(2, 2, [5, 4, 2, 0])])
        self.assertEqual(wheel.lists_at(218), [])
        wheel.advance(15)
        self.assertEqual([wheel.firing(22), wheel.firing(29)], [[1], []])

    def test_lists_at(self):
        wheel = filled()
        self.assertEqual(wheel.lists_at(3), wheel.lists())
        self.assertEqual(wheel.lists_at(9), [(1, 1, [1]), (2, 2, [5, 4, 2, 0])])
        self.assertEqual(wheel.lists_at(10), [(0, 5, [1]), (2, 2, [5, 4, 2, 0])])
        self.assertEqual(wheel.lists_at(199), [(2, 2, [5, 4, 2, 0])])
        self.assertEqual(wheel.lists_at(200), [(0, 5, [0, 2]), (1, 1, [4, 5])])
        self.assertEqual(wheel.lists_at(210), [(0, 5, [4]), (0, 7, [5])])
        self.assertEqual(wheel.lists_at(216), [(0, 7, [5])])
        self.assertEqual(wheel.lists_at(217), [])
        self.assertEqual(wheel.lists_at(FAR), [])

    def test_looking_changes_nothing(self):
        wheel = filled()
        before = (wheel.snapshot(), wheel.lists())
        wheel.firing(205)
        wheel.lists_at(210)
        wheel.restoring()
        wheel.next_event()
        wheel.next_firing()
        wheel.moves_until(FAR)
        self.assertEqual((wheel.snapshot(), wheel.lists()), before)

    def test_wrong_ticks(self):
        wheel = filled()
        for tick in not_ticks() + [0, 2]:
            for call in (wheel.firing, wheel.lists_at, wheel.moves_until):
                with self.assertRaises(NoTick, msg=repr(tick)):
                    call(tick)
        with self.assertRaises(NoTick):
            wheel.firing(3)
        self.assertEqual([wheel.lists_at(3), wheel.moves_until(3)], [wheel.lists(), 0])


class Restoring(unittest.TestCase):
    def test_queues_from_the_front_stacks_from_the_end(self):
        wheel = Wheel(10, ["stack", "queue"])
        for due in (3, 15, 3, 17, 3, 16):
            wheel.put(due)
        self.assertEqual(wheel.lists(), [(0, 3, [4, 2, 0]), (1, 1, [1, 3, 5])])
        self.assertEqual(wheel.restoring(), [(0, 3), (2, 3), (4, 3), (1, 15), (3, 17), (5, 16)])

    def test_the_document_s_wheel(self):
        wheel = Wheel(10, ["stack"], start=3)
        wheel.put(205)
        wheel.advance(150)
        wheel.put(205)
        wheel.advance(200)
        self.assertEqual(wheel.restoring(), [(1, 205), (0, 205)])

    def test_levels_beyond_the_list(self):
        wheel = Wheel(10, ["queue", "stack"])
        for due in (3000, 3001, 3000):
            wheel.put(due)
        self.assertEqual(wheel.lists(), [(3, 3, [2, 1, 0])])
        self.assertEqual(wheel.restoring(), [(0, 3000), (1, 3001), (2, 3000)])

    def test_empty(self):
        self.assertEqual(Wheel(10, ["queue"]).restoring(), [])

    def test_kinds_of_values(self):
        told = filled().restoring()
        self.assertIs(type(told), list)
        self.assertEqual({type(row) for row in told}, {tuple})


class Snapshots(unittest.TestCase):
    def test_what_it_holds(self):
        wheel = filled()
        self.assertEqual(wheel.snapshot(), (10, ["stack"], 3, 6, [
            (3, 9, None), (1, 15, 7), (0, 205, None), (2, 205, None), (4, 215, 10), (5, 217, None)]))
        wheel.advance(16)
        self.assertEqual(wheel.snapshot(), (10, ["stack"], 16, 6, [
            (1, 22, 7), (0, 205, None), (2, 205, None), (4, 215, 10), (5, 217, None)]))

    def test_kinds_of_values(self):
        told = filled().snapshot()
        self.assertIs(type(told), tuple)
        self.assertEqual([type(part) for part in told], [int, list, int, int, list])
        self.assertEqual({type(row) for row in told[4]}, {tuple})

    def test_an_empty_wheel(self):
        self.assertEqual(Wheel(2, ["queue", "stack"], start=7).snapshot(), (2, ["queue", "stack"], 7, 0, []))

    def test_words_that_only_repeat_the_word_before_them_are_left_out(self):
        for levels, told in [
                (["stack"], ["stack"]), (["stack"] * 60, ["stack"]), (["queue", "stack", "stack"], ["queue", "stack"]),
                (["stack", "stack", "queue"], ["stack", "stack", "queue"]),
                (["queue", "queue", "stack", "queue", "queue", "queue"], ["queue", "queue", "stack", "queue"])]:
            self.assertEqual(Wheel(10, levels).snapshot()[1], told)

    def test_the_caller_may_change_it(self):
        wheel = filled(["queue", "stack"])
        told = wheel.snapshot()
        told[1][0] = "stack"
        told[1].append("queue")
        told[4].clear()
        self.assertEqual(wheel.snapshot(), filled(["queue", "stack"]).snapshot())


class Equal(unittest.TestCase):
    def test_wheels_that_went_the_same_way(self):
        one, other = filled(), filled()
        self.assertTrue(one == other)
        self.assertFalse(one != other)
        one.advance(100)
        self.assertFalse(one == other)
        self.assertTrue(one != other)
        other.advance(50)
        other.advance(100)
        self.assertTrue(one == other)
        self.assertTrue(one == one)

    def test_the_same_word_at_every_level(self):
        self.assertTrue(filled(["stack"]) == filled(["stack"] * 3))
        self.assertTrue(filled(["queue", "stack"]) == filled(["queue", "stack", "stack"]))
        self.assertTrue(Wheel(10, ["queue"] * 60) == Wheel(10, ["queue"]))
        self.assertFalse(Wheel(10, ["queue"]) == Wheel(10, ["queue", "stack"]))
        self.assertFalse(Wheel(10, ["queue"]) == Wheel(10, ["stack"]))

    def test_each_difference_counts(self):
        self.assertFalse(Wheel(10, ["stack"]) == Wheel(9, ["stack"]))
        self.assertFalse(Wheel(10, ["stack"]) == Wheel(10, ["stack"], start=1))
        one, other = filled(), filled()
        other.cancel(other.put(20))
        self.assertEqual(one.lists(), other.lists())
        self.assertFalse(one == other)
        one.cancel(one.put(70))
        self.assertTrue(one == other)

    def test_due_ticks_and_periods_count(self):
        one, other = Wheel(10, ["stack"]), Wheel(10, ["stack"])
        one.put(15)
        other.put(16)
        self.assertEqual(one.lists(), other.lists())
        self.assertFalse(one == other)
        other.reset(0, 15)
        self.assertTrue(one == other)
        one.put(15, period=3)
        other.put(15)
        self.assertFalse(one == other)
        other.cancel(1)
        one.cancel(1)
        one.put(15, period=3)
        other.put(15, period=4)
        self.assertFalse(one == other)

    def test_the_order_in_a_list_counts(self):
        one, other = Wheel(10, ["stack"]), Wheel(10, ["stack"])
        for wheel in (one, other):
            wheel.put(15)
            wheel.put(15)
        other.reset(0, 15)
        self.assertEqual([one.timers(), one.due(0), one.due(1)], [other.timers(), other.due(0), other.due(1)])
        self.assertFalse(one == other)
        other.reset(1, 15)
        self.assertTrue(one == other)

    def test_the_order_across_lists_does_not_count(self):
        one, other = Wheel(10, ["stack"]), Wheel(10, ["stack"])
        for wheel in (one, other):
            wheel.put(15)
            wheel.put(25)
        other.reset(0, 15)
        self.assertTrue(one == other)

    def test_set_at_different_ticks_in_the_same_lists(self):
        one, other = Wheel(10, ["stack"]), Wheel(10, ["stack"])
        one.put(205)
        one.put(205)
        one.advance(200)
        other.advance(200)
        other.put(205)
        other.put(205)
        self.assertFalse(one == other)
        other.reset(0, 205)
        self.assertTrue(one == other)
        self.assertEqual(one.advance(300), other.advance(300))

    def test_nothing_else_is_equal(self):
        class Agreeing:
            def __eq__(self, other):
                return True

        wheel = filled()
        for other in others() + [None, [], 0, wheel.snapshot(), list(wheel.snapshot()), Agreeing()]:
            self.assertIs(wheel == other, False)
            self.assertIs(wheel != other, True)


class Events(unittest.TestCase):
    def test_no_live_timers(self):
        wheel = Wheel(10, ["stack"])
        self.assertIsNone(wheel.next_event())
        self.assertIsNone(wheel.next_firing())
        self.assertEqual(wheel.moves_until(FAR), 0)
        wheel.put(3)
        wheel.advance(3)
        self.assertIsNone(wheel.next_event())
        self.assertIsNone(wheel.next_firing())

    def test_next_event_is_a_firing_or_a_move(self):
        wheel = Wheel(10, ["stack"], start=3)
        wheel.put(215)
        told = []
        while len(wheel):
            told.append((wheel.next_event(), wheel.next_firing()))
            wheel.advance(wheel.next_event())
        self.assertEqual(told, [(200, 215), (210, 215), (215, 215)])
        self.assertEqual(wheel.now(), 215)

    def test_the_least_of_several(self):
        wheel = filled()
        self.assertEqual([wheel.next_event(), wheel.next_firing()], [9, 9])
        wheel.cancel(3)
        self.assertEqual([wheel.next_event(), wheel.next_firing()], [10, 15])
        wheel.cancel(1)
        self.assertEqual([wheel.next_event(), wheel.next_firing()], [200, 205])
        wheel.put(204)
        self.assertEqual([wheel.next_event(), wheel.next_firing()], [200, 204])

    def test_moves_until(self):
        wheel = Wheel(10, ["stack"], start=3)
        wheel.put(215)
        wheel.put(205)
        self.assertEqual([wheel.moves_until(tick) for tick in (3, 199, 200, 209, 210, 215, FAR)],
                         [0, 0, 2, 2, 3, 3, 3])
        wheel.advance(200)
        self.assertEqual([wheel.moves_until(tick) for tick in (200, 209, 210)], [0, 0, 1])

    def test_a_timer_that_fires_is_not_put_into_a_list(self):
        wheel = Wheel(10, ["queue"])
        for due in (5, 10, 100, 7000):
            wheel.put(due)
        self.assertEqual(wheel.moves_until(10000), 0)

    def test_moves_of_a_periodic_timer_end_at_its_next_due_tick(self):
        wheel = Wheel(10, ["queue"])
        wheel.put(15, period=10)
        self.assertEqual(wheel.moves_until(FAR), 1)
        wheel.advance(15)
        self.assertEqual(wheel.moves_until(FAR), 1)

    def test_far_ticks(self):
        wheel = Wheel(2, ["stack"])
        due = 10 ** 60 - 1
        for _ in range(200):
            wheel.put(due)
        ones = bin(due).count("1")
        self.assertEqual([wheel.next_event(), wheel.next_firing()], [2 ** 199, due])
        self.assertEqual(wheel.moves_until(due), 200 * (ones - 1))
        self.assertEqual(wheel.moves_until(due - 1), 200 * (ones - 1))
        self.assertEqual(wheel.moves_until(due - 2), 200 * (ones - 2))
        self.assertEqual(wheel.moves_until(2 ** 199 - 1), 0)


if __name__ == "__main__":
    unittest.main()
