"""The whole program: points 2 to 19, each beside the others, and the interface as a whole."""

import ast
import importlib
import inspect
import itertools
import pathlib
import random
import time
import unittest

import timerdeque
from pair import LEVELS
from timerdeque.desk import Desk, replayed
from timerdeque.digits import side, stations
from timerdeque.errors import NoTick, TooMany
from timerdeque.moves import moves_in
from timerdeque.periods import first_of_two, order_at
from timerdeque.plans import set_ticks, told_apart
from timerdeque.seen import levels_seen
from timerdeque.snapshots import restored
from timerdeque.wheel import Wheel

LAST = 10 ** 60 - 1
INTERFACE = {
    "wheel": ["Wheel(base, levels, *, start=0)"],
    "digits": ["stations(base, now, due)", "side(base, levels, now, due)"],
    "moves": ["moves_in(base, now, first, behind)", "costliest(base, now, first, behind)"],
    "periods": ["common(one, other)", "first_of_two(base, levels, one, other, tick)", "order_at(base, levels, some, tick)",
                "times_first(base, levels, one, other, first, behind)"],
    "plans": ["set_ticks(base, levels, start, due, order)", "told_apart(base, levels, other_base, other_levels)"],
    "seen": ["levels_seen(base, many, seen)"],
    "snapshots": ["restored(snapshot)"],
    "desk": ["Desk(base, levels, *, start=0)", "replayed(base, levels, start, log)"],
}


def firing_side(wheel, due):
    """Where a timer with this due tick goes among those that are there, as the wheel tells it."""
    wheel = restored(wheel.snapshot())
    wheel.put(due)
    before = wheel.firing(due)
    number = wheel.put(due)
    return {(number, *before): "front", (*before, number): "back"}[tuple(wheel.firing(due))]


class Interface(unittest.TestCase):
    def test_each_name_in_its_file(self):
        folder = pathlib.Path(timerdeque.__file__).parent
        for name, rows in INTERFACE.items():
            module = importlib.import_module("timerdeque." + name)
            defined = [node.name for node in ast.parse((folder / (name + ".py")).read_text("ascii")).body
                       if isinstance(node, (ast.FunctionDef, ast.ClassDef))]
            for row in rows:
                made = getattr(module, row.partition("(")[0])
                self.assertIn(made.__name__, defined)
                self.assertEqual(made.__module__, "timerdeque." + name)
                self.assertEqual(made.__name__ + str(inspect.signature(made)), row)

    def test_methods_stand_in_the_class_itself(self):
        for kind, names in [
                (Wheel, "now put cancel reset due timers __len__ advance lists firing lists_at restoring snapshot __eq__ "
                        "next_event next_firing moves_until"), (Desk, "say log wheel")]:
            for name in names.split():
                self.assertTrue(inspect.isfunction(vars(kind)[name]), name)


class WheelsOfAllOrigins(unittest.TestCase):
    """A wheel, the same one restored and the same one of a desk, near and far, with and without periods."""

    def told(self, wheels, desk, text):
        """Say the same to all; return what each answers."""
        word, *numbers = [int(part) if part.isdigit() else part for part in text.split(" ")]
        for wheel in wheels:
            if word == "put":
                wheel.put(numbers[0], period=numbers[2] if len(numbers) == 3 else None)
            elif word == "go":
                wheel.advance(numbers[0])
            else:
                getattr(wheel, word)(*numbers)
        return desk.say(text)

    def test_the_same_all_along(self):
        source = random.Random(26)
        for base, levels, start in itertools.product((2, 10, 64), LEVELS, (0, 10 ** 59 + 12345)):
            desk, wheels = Desk(base, levels, start=start), [Wheel(base, levels, start=start)]
            for step in range(40):
                now, timers = wheels[0].now(), wheels[0].timers()
                due = now + source.choice([1, 2, base, base * base + 1, 10 ** source.randint(1, 40), source.randint(1, 300)])
                period = source.choice([1, 5, base, 10 ** source.randint(2, 50)])
                soon = min([now + source.randint(0, 400)] + [wheel.next_firing() + 200 for wheel in wheels if timers])
                texts = [f"put {due}", f"put {due} every {period}", f"go {soon}"]
                texts += [f"cancel {timers[0]}", f"reset {timers[-1]} {due}"] if timers else []
                self.told(wheels, desk, source.choice(texts))
                if step % 10 == 5:
                    wheels += [restored(wheels[-1].snapshot()), desk.wheel()]
                rows = [wheel.lists() for wheel in wheels]
                self.assertEqual(rows, [rows[0]] * len(wheels))
                self.assertTrue(all(wheel == wheels[0] for wheel in wheels + [desk.wheel()]))
                at = wheels[0].now() + source.randint(1, 10 ** source.randint(1, 40))
                ahead = [[wheel.lists_at(at), wheel.firing(at), wheel.moves_until(at), wheel.next_event()] for wheel in wheels]
                self.assertEqual(ahead, [ahead[0]] * len(wheels))
            again = replayed(base, levels, start, desk.log())
            self.assertTrue(again.wheel() == wheels[0])

    def test_2000_firings_in_each(self):
        desk = Desk(10, ["queue"], start=5)
        desk.say("put 6 every 1")
        for wheel in (desk.wheel(), restored(desk.wheel().snapshot())):
            before = wheel.snapshot()
            with self.assertRaises(TooMany):
                wheel.advance(2006)
            self.assertEqual(wheel.snapshot(), before)
            self.assertEqual(len(wheel.advance(2005)), 2000)
            self.assertEqual(desk.wheel().snapshot(), before)

    def test_two_hundred_timers_at_once(self):
        begun = time.process_time()
        wheel = Wheel(2, ["stack", "queue"])
        for number in range(200):
            wheel.put(LAST - number % 7, period=None if number % 3 else 10 ** 58)
        again = restored(wheel.snapshot())
        self.assertTrue(again == wheel)
        self.assertEqual(again.advance(LAST), wheel.advance(LAST))
        self.assertTrue(again == wheel)
        self.assertLess(time.process_time() - begun, 5)


class Agreeing(unittest.TestCase):
    """What one part of the program says of another one."""

    def test_side_is_what_a_wheel_does(self):
        source = random.Random(27)
        for base, levels in itertools.product((2, 3, 10), LEVELS):
            for _ in range(10):
                wheel, due = Wheel(base, levels), source.randint(2, 10 ** source.randint(1, 59))
                for now in sorted(source.randrange(due) for _ in range(5)):
                    wheel.advance(now)
                    self.assertEqual(firing_side(wheel, due), side(base, levels, now, due))
                    wheel.put(due)

    def test_moves_of_stations_and_of_a_wheel(self):
        for base, now in itertools.product((2, 3, 10), (0, 5, 99)):
            wheel = Wheel(base, ["queue"], start=now)
            for due in range(now + 1, now + 150):
                wheel.put(due)
            moves = sum(len(stations(base, now, due)) for due in range(now + 1, now + 150))
            self.assertEqual(moves_in(base, now, now + 1, now + 150), moves)
            self.assertEqual(wheel.moves_until(now + 150), moves - len(wheel))

    def test_sightings_of_a_desk(self):
        source = random.Random(28)
        for base, levels in itertools.product((2, 10), LEVELS):
            desk, seen = Desk(base, levels), []
            for _ in range(30):
                now = desk.wheel().now()
                due = now + source.randint(1, base ** source.randint(1, 5))
                desk.say(f"put {due}")
                seen.append((now, due, firing_side(desk.wheel(), due)))
                desk.say(f"go {now + source.randint(0, 50)}")
            kind, first, count = levels_seen(base, len(levels), seen)
            self.assertEqual(kind, "levels")
            self.assertLessEqual(first, levels)
            for now, due, told in seen:
                self.assertEqual(side(base, first, now, due), told)

    def test_what_tells_wheels_apart_is_a_sighting(self):
        for base, levels, others in itertools.product((2, 10), LEVELS, LEVELS):
            told = told_apart(base, levels, base, others)
            if told[0] == "apart":
                now, due = told[2], told[1]
                seen = [(now, due, side(base, levels, now, due)), (now, due, side(base, others, now, due))]
                self.assertEqual(levels_seen(base, 4, seen), ("none", 2))
            else:
                one, other = Wheel(base, levels), Wheel(base, others)
                self.assertTrue(one == other)

    def test_a_plan_carried_out_by_a_desk(self):
        for base, levels in itertools.product((2, 10), LEVELS):
            for order in itertools.permutations(range(4)):
                for due in (205, 10 ** 50 + 10 ** 20 + 101):
                    kind, ticks = set_ticks(base, levels, 3, due, list(order))
                    if kind == "ticks":
                        desk = Desk(base, levels, start=3)
                        for tick in ticks:
                            desk.say(f"go {tick}")
                            desk.say(f"put {due}")
                        self.assertEqual(desk.say(f"go {due}"), f"{due}: {' '.join(map(str, order))}")

    def test_periodic_timers_of_a_restored_wheel(self):
        some = [(1, 4), (3, 6), (5, 3), (2, 5), (4, 1)]
        for base, levels in itertools.product((2, 3, 10), LEVELS):
            rows = [(index, phase, period) for index, (phase, period) in enumerate(some)]
            wheel = restored((base, levels, 0, len(rows), rows))
            for tick, numbers in wheel.advance(200):
                if tick > 5:
                    self.assertEqual(order_at(base, levels, some, tick), numbers)
            for tick in range(6, 200):
                if order_at(base, levels, some[:2], tick) == [0, 1]:
                    self.assertEqual(first_of_two(base, levels, *some[:2], tick), 0)

    def test_a_far_wheel_with_both_sorts_of_timers(self):
        for base, levels in itertools.product((2, 10, 64), LEVELS):
            now, due = 10 ** 58, 10 ** 59 + 12 * 10 ** 20
            desk = Desk(base, levels, start=now)
            for text in (f"put {due}", f"put {due - 5 * 10 ** 20} every {10 ** 20}", f"put {due - 6} every 3", f"put {due}"):
                desk.say(text)
            desk.say(f"go {due - 1}")
            self.assertEqual(desk.say("due 1"), str(due))
            sides = [side(base, levels, at, due) for at in (now, now, due - 10 ** 20, due - 3)]
            numbers = []
            for number, told in zip((0, 3, 1, 2), sides):
                numbers = [number] + numbers if told == "front" else numbers + [number]
            self.assertEqual(desk.wheel().firing(due), numbers)
            self.assertEqual(restored(desk.wheel().snapshot()).advance(due), [(due, numbers)])
            self.assertEqual(desk.say(f"go {due}"), f"{due}: {' '.join(map(str, numbers))}")
            self.assertRaises(NoTick, desk.say, f"go {due - 1}")


if __name__ == "__main__":
    unittest.main()
