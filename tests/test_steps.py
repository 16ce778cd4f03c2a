"""Points 3, 4, 5, 8, 9, 16 and 17 beside a small wheel that goes through the ticks one by one."""

import itertools
import random
import unittest

from pair import LEVELS, Pair, rebuilt


class Steps(Pair):
    def test_every_tick_of_a_small_wheel(self):
        for base, levels in itertools.product((2, 3), LEVELS):
            self.start(base, levels)
            for tick in range(1, 28):
                self.put(tick)
                self.put(tick)
            for tick in range(28):
                self.advance(tick)
                self.put(30)
                self.same_now()
                self.same_ahead(32 - tick)
                self.same_events()

    def test_two_timers_at_all_ticks(self):
        for base, levels in itertools.product((2, 3), LEVELS):
            for due in range(1, 28):
                for one, other in itertools.combinations_with_replacement(range(due), 2):
                    self.start(base, levels)
                    self.advance(one)
                    self.put(due)
                    self.advance(other)
                    self.put(due)
                    self.advance(due)

    def test_periodic_timers(self):
        for base, levels in itertools.product((2, 3, 10), LEVELS):
            self.start(base, levels, start=5)
            for due, period in [(6, 1), (8, 4), (8, None), (9, 6), (14, 3), (8, 4), (20, 25)]:
                self.put(due, period)
            for tick in (5, 8, 9, 20, 21, 100):
                self.advance(tick)
                self.same_now()
                self.same_ahead(30)

    def test_random_wheels(self):
        source = random.Random(20)
        for base, levels in itertools.product((2, 3, 4, 10), LEVELS):
            for _ in range(4):
                self.start(base, levels, start=source.choice([0, 0, 1, 26, 98, 1000]))
                for _ in range(60):
                    self.one_random_change(source, source.choice([5, 40, 150]))
                    self.same_now()
                self.same_ahead(160)
                self.same_events()
                self.same_restored()

    def test_rebuilt_wheels_go_the_same_way(self):
        source = random.Random(21)
        for base, levels in itertools.product((2, 3, 10), LEVELS):
            self.start(base, levels)
            for _ in range(40):
                self.one_random_change(source, 60)
            made = rebuilt(self.wheel)
            for tick in range(self.wheel.now(), self.wheel.now() + 70, 3):
                self.assertEqual(made.lists_at(tick), self.wheel.lists_at(tick))
                self.assertEqual(made.moves_until(tick), self.wheel.moves_until(tick))
            for tick in range(self.wheel.now(), self.wheel.now() + 70, 3):
                self.assertEqual(made.advance(tick), self.wheel.advance(tick))
                self.assertTrue(made == self.wheel)
                self.assertEqual(made.put(tick + 17), self.wheel.put(tick + 17))
                self.assertEqual([made.next_event(), made.next_firing()],
                                 [self.wheel.next_event(), self.wheel.next_firing()])


if __name__ == "__main__":
    unittest.main()
