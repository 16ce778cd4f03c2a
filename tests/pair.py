"""A wheel beside a small one that goes through the ticks one by one: what tests tell both, and compare."""

import unittest

from stepwheel import StepWheel
from timerdeque.wheel import Wheel

LEVELS = [["stack"], ["queue"], ["stack", "queue"], ["queue", "stack"], ["stack", "stack", "queue"],
          ["queue", "stack", "queue", "stack"]]


def rebuilt(wheel):
    """A new wheel of the same snapshot, made by setting its timers in the order of restoring()."""
    base, levels, now, following, rows = wheel.snapshot()
    made = Wheel(base, levels, start=now)
    periods = {number: period for number, due, period in rows}
    for number in range(following):
        made.put(now + 1, period=periods.get(number))
    for number in range(following):
        if number not in periods:
            made.cancel(number)
    for number, due in wheel.restoring():
        made.reset(number, due)
    return made


class Pair(unittest.TestCase):
    """A wheel and a stepping wheel that are told the same."""

    def start(self, base, levels, start=0):
        self.wheel, self.steps = Wheel(base, levels, start=start), StepWheel(base, levels, start)

    def put(self, due, period=None):
        self.assertEqual(self.wheel.put(due, period=period), self.steps.put(due, period))

    def advance(self, tick):
        self.assertEqual(self.wheel.advance(tick), self.steps.advance(tick))

    def same_now(self):
        self.assertEqual(self.wheel.now(), self.steps.tick)
        self.assertEqual(self.wheel.lists(), self.steps.lists())
        self.assertEqual(self.wheel.timers(), self.steps.timers())
        self.assertEqual(len(self.wheel), len(self.steps.dues))
        self.assertEqual({timer: self.wheel.due(timer) for timer in self.wheel.timers()}, self.steps.dues)
        rows = self.wheel.snapshot()[4]
        self.assertEqual({number: period for number, due, period in rows}, self.steps.periods)
        self.assertEqual([(number, due) for number, due, period in rows], self.wheel.restoring())

    def same_ahead(self, ticks):
        steps = self.steps.copy(periodic=False)
        for tick in range(self.steps.tick, self.steps.tick + ticks):
            if tick > self.steps.tick:
                self.assertEqual(self.wheel.firing(tick), steps.pass_one())
            self.assertEqual(self.wheel.lists_at(tick), steps.lists())
            self.assertEqual(self.wheel.moves_until(tick), steps.moves)

    def same_events(self):
        steps = self.steps.copy(periodic=False)
        first = None
        while steps.dues and first is None:
            first = (steps.pass_one() or None) and steps.tick
        self.assertEqual(self.wheel.next_firing(), first)
        self.assertEqual(self.wheel.next_event(), steps.events[0] if steps.events else None)

    def same_restored(self):
        now = self.steps.tick
        fresh, numbers = StepWheel(self.steps.base, self.steps.levels, now), {}
        for number, due in self.wheel.restoring():
            numbers[fresh.put(due)] = number
        told = [(level, digit, [numbers[new] for new in row]) for level, digit, row in fresh.lists()]
        self.assertEqual(told, self.wheel.lists())
        made = rebuilt(self.wheel)
        self.assertEqual(made.snapshot(), self.wheel.snapshot())
        self.assertTrue(made == self.wheel)
        self.assertEqual(made.advance(now + 60), self.steps.copy().advance(now + 60))

    def one_random_change(self, source, ahead):
        timers = self.wheel.timers()
        act = source.choice(["put", "put", "put", "cancel", "reset", "reset", "go", "go"])
        due = self.wheel.now() + source.randint(1, ahead)
        if act == "put" and len(timers) < 14:
            self.put(due, source.choice([None, None, None, 1, 2, 5, 7, 12]))
        elif act == "cancel" and timers:
            timer = source.choice(timers)
            self.wheel.cancel(timer)
            self.steps.cancel(timer)
        elif act == "reset" and timers:
            timer = source.choice(timers)
            self.wheel.reset(timer, due)
            self.steps.reset(timer, due)
        elif act == "go":
            self.advance(self.wheel.now() + source.choice([0, 1, 1, 2, 3, 9, source.randint(0, ahead)]))
