"""Points 3, 4, 5, 8, 9, 16 and 17 beside a small wheel that goes through the ticks one by one."""

import itertools
import random
import unittest

from stepwheel import StepWheel
from timerdeque.wheel import Wheel

LEVELS = [["stack"], ["queue"], ["stack", "queue"], ["queue", "stack"], ["stack", "stack", "queue"],
          ["queue", "stack", "queue", "stack"]]


def rebuilt(wheel):
    """A new wheel of the same snapshot, made by setting its timers in the order of restoring()."""
    base, levels, now, following, rows = wheel.snapshot()
    made = Wheel(base, levels, start=now)
    periods = {number: period for number, due, period in rows}
    for number in range(following):
        made.put(now + 1, period=periods.get(number))
    for number in range(following):
        if number not in periods:
            made.cancel(number)
    for number, due in wheel.restoring():
        made.reset(number, due)
    return made


class Pair(unittest.TestCase):
    """A wheel and a stepping wheel that are told the same."""

    def start(self, base, levels, start=0):
        self.wheel, self.steps = Wheel(base, levels, start=start), StepWheel(base, levels, start)

    def put(self, due, period=None):
        self.assertEqual(self.wheel.put(due, period=period), self.steps.put(due, period))

    def advance(self, tick):
        self.assertEqual(self.wheel.advance(tick), self.steps.advance(tick))

    def same_now(self):
        self.assertEqual(self.wheel.now(), self.steps.tick)
        self.assertEqual(self.wheel.lists(), self.steps.lists())
        self.assertEqual(self.wheel.timers(), self.steps.timers())
        self.assertEqual(len(self.wheel), len(self.steps.dues))
        self.assertEqual({timer: self.wheel.due(timer) for timer in self.wheel.timers()}, self.steps.dues)
        rows = self.wheel.snapshot()[4]
        self.assertEqual({number: period for number, due, period in rows}, self.steps.periods)
        self.assertEqual([(number, due) for number, due, period in rows], self.wheel.restoring())

    def same_ahead(self, ticks):
        steps = self.steps.copy(periodic=False)
        for tick in range(self.steps.tick, self.steps.tick + ticks):
            if tick > self.steps.tick:
                self.assertEqual(self.wheel.firing(tick), steps.pass_one())
            self.assertEqual(self.wheel.lists_at(tick), steps.lists())
            self.assertEqual(self.wheel.moves_until(tick), steps.moves)

    def same_events(self):
        steps = self.steps.copy(periodic=False)
        first = None
        while steps.dues and first is None:
            first = (steps.pass_one() or None) and steps.tick
        self.assertEqual(self.wheel.next_firing(), first)
        self.assertEqual(self.wheel.next_event(), steps.events[0] if steps.events else None)

    def same_restored(self):
        now = self.steps.tick
        fresh, numbers = StepWheel(self.steps.base, self.steps.levels, now), {}
        for number, due in self.wheel.restoring():
            numbers[fresh.put(due)] = number
        told = [(level, digit, [numbers[new] for new in row]) for level, digit, row in fresh.lists()]
        self.assertEqual(told, self.wheel.lists())
        made = rebuilt(self.wheel)
        self.assertEqual(made.snapshot(), self.wheel.snapshot())
        self.assertTrue(made == self.wheel)
        self.assertEqual(made.advance(now + 60), self.steps.copy().advance(now + 60))

    def one_random_change(self, source, ahead):
        timers = self.wheel.timers()
        act = source.choice(["put", "put", "put", "cancel", "reset", "reset", "go", "go"])
        due = self.wheel.now() + source.randint(1, ahead)
        if act == "put" and len(timers) < 14:
            self.put(due, source.choice([None, None, None, 1, 2, 5, 7, 12]))
        elif act == "cancel" and timers:
            timer = source.choice(timers)
            self.wheel.cancel(timer)
            self.steps.cancel(timer)
        elif act == "reset" and timers:
            timer = source.choice(timers)
            self.wheel.reset(timer, due)
            self.steps.reset(timer, due)
        elif act == "go":
            self.advance(self.wheel.now() + source.choice([0, 1, 1, 2, 3, 9, source.randint(0, ahead)]))


class Steps(Pair):
    def test_every_tick_of_a_small_wheel(self):
        for base, levels in itertools.product((2, 3), LEVELS):
            self.start(base, levels)
            for tick in range(1, 28):
                self.put(tick)
                self.put(tick)
            for tick in range(28):
                self.advance(tick)
                self.put(30)
                self.same_now()
                self.same_ahead(32 - tick)
                self.same_events()

    def test_two_timers_at_all_ticks(self):
        for base, levels in itertools.product((2, 3), LEVELS):
            for due in range(1, 28):
                for one, other in itertools.combinations_with_replacement(range(due), 2):
                    self.start(base, levels)
                    self.advance(one)
                    self.put(due)
                    self.advance(other)
                    self.put(due)
                    self.advance(due)

    def test_periodic_timers(self):
        for base, levels in itertools.product((2, 3, 10), LEVELS):
            self.start(base, levels, start=5)
            for due, period in [(6, 1), (8, 4), (8, None), (9, 6), (14, 3), (8, 4), (20, 25)]:
                self.put(due, period)
            for tick in (5, 8, 9, 20, 21, 100):
                self.advance(tick)
                self.same_now()
                self.same_ahead(30)

    def test_random_wheels(self):
        source = random.Random(20)
        for base, levels in itertools.product((2, 3, 4, 10), LEVELS):
            for _ in range(4):
                self.start(base, levels, start=source.choice([0, 0, 1, 26, 98, 1000]))
                for _ in range(60):
                    self.one_random_change(source, source.choice([5, 40, 150]))
                    self.same_now()
                self.same_ahead(160)
                self.same_events()
                self.same_restored()

    def test_rebuilt_wheels_go_the_same_way(self):
        source = random.Random(21)
        for base, levels in itertools.product((2, 3, 10), LEVELS):
            self.start(base, levels)
            for _ in range(40):
                self.one_random_change(source, 60)
            made = rebuilt(self.wheel)
            for tick in range(self.wheel.now(), self.wheel.now() + 70, 3):
                self.assertEqual(made.lists_at(tick), self.wheel.lists_at(tick))
                self.assertEqual(made.moves_until(tick), self.wheel.moves_until(tick))
            for tick in range(self.wheel.now(), self.wheel.now() + 70, 3):
                self.assertEqual(made.advance(tick), self.wheel.advance(tick))
                self.assertTrue(made == self.wheel)
                self.assertEqual(made.put(tick + 17), self.wheel.put(tick + 17))
                self.assertEqual([made.next_event(), made.next_firing()],
                                 [self.wheel.next_event(), self.wheel.next_firing()])


if __name__ == "__main__":
    unittest.main()
