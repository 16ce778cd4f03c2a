"""Points 2, 6 and 7: stations and side."""

import inspect
import itertools
import random
import unittest

from stepwheel import StepWheel
from timerdeque import digits
from timerdeque.digits import side, stations
from timerdeque.errors import NoBase, NoLevels, NoTick
from wrong import not_bases, not_levels, not_ticks


def seen_stations(base, now, due):
    """The lists in which a timer stands while a wheel goes through the ticks."""
    wheel = StepWheel(base, ["queue"], now)
    wheel.put(due)
    rows, moves = [], -1
    while wheel.dues:
        if wheel.moves != moves:
            [(level, digit, numbers)] = wheel.lists()
            rows.append((level, digit, wheel.tick))
            moves = wheel.moves
        wheel.pass_one()
    return rows


class Interface(unittest.TestCase):
    def test_arguments(self):
        self.assertEqual(str(inspect.signature(stations)), "(base, now, due)")
        self.assertEqual(str(inspect.signature(side)), "(base, levels, now, due)")

    def test_defined_in_their_file(self):
        for made in (stations, side):
            self.assertEqual(made.__module__, "timerdeque.digits")
            self.assertIs(getattr(digits, made.__name__), made)

    def test_by_name(self):
        self.assertEqual(stations(due=205, now=3, base=10), [(2, 2, 3), (0, 5, 200)])
        self.assertEqual(side(due=205, now=203, levels=["stack"], base=10), "front")


class Stations(unittest.TestCase):
    def test_ordinary(self):
        self.assertEqual(stations(10, 0, 1), [(0, 1, 0)])
        self.assertEqual(stations(10, 0, 10), [(1, 1, 0)])
        self.assertEqual(stations(10, 9, 10), [(1, 1, 9)])
        self.assertEqual(stations(10, 0, 12), [(1, 1, 0), (0, 2, 10)])
        self.assertEqual(stations(10, 11, 12), [(0, 2, 11)])
        self.assertEqual(stations(10, 1234, 7089), [(3, 7, 1234), (1, 8, 7000), (0, 9, 7080)])
        self.assertEqual(stations(10, 3, 205), [(2, 2, 3), (0, 5, 200)])

    def test_kinds_of_values(self):
        told = stations(10, 3, 205)
        self.assertIs(type(told), list)
        self.assertEqual({type(row) for row in told}, {tuple})
        self.assertEqual({type(part) for row in told for part in row}, {int})

    def test_the_least_and_the_greatest_base(self):
        self.assertEqual(stations(2, 0, 0b1011), [(3, 1, 0), (1, 1, 8), (0, 1, 10)])
        self.assertEqual(stations(64, 5, 64 * 64 * 63 + 62), [(2, 63, 5), (0, 62, 64 * 64 * 63)])

    def test_the_lists_in_which_a_stepping_wheel_puts_it(self):
        for base in (2, 3, 10):
            for now in range(0, 60, 7 if base == 10 else 1):
                for due in range(now + 1, now + 130, 3):
                    self.assertEqual(stations(base, now, due), seen_stations(base, now, due), (base, now, due))

    def test_sixty_digits(self):
        due = 9 * 10 ** 59 + 7
        self.assertEqual(stations(10, 5, due), [(59, 9, 5), (0, 7, 9 * 10 ** 59)])
        self.assertEqual(stations(10, due - 1, due), [(0, 7, due - 1)])
        told = stations(2, 0, 10 ** 60 - 1)
        self.assertEqual(len(told), bin(10 ** 60 - 1).count("1"))
        self.assertEqual(told[0], (199, 1, 0))
        self.assertEqual(told[-1], (0, 1, 10 ** 60 - 2))

    def test_the_returned_list_is_new(self):
        told = stations(10, 3, 205)
        told.clear()
        self.assertEqual(stations(10, 3, 205), [(2, 2, 3), (0, 5, 200)])

    def test_due_is_greater_than_now(self):
        for now, due in [(0, 0), (5, 5), (6, 5), (10 ** 59, 10 ** 59), (10 ** 59, 3)]:
            with self.assertRaises(NoTick):
                stations(10, now, due)
            with self.assertRaises(NoTick):
                side(10, ["stack"], now, due)


class Side(unittest.TestCase):
    def test_ordinary(self):
        self.assertEqual(side(10, ["stack"], 3, 205), "back")
        self.assertEqual(side(10, ["stack"], 203, 205), "front")
        self.assertEqual(side(10, ["queue"], 3, 205), "back")
        self.assertEqual(side(10, ["queue"], 203, 205), "back")
        self.assertEqual(side(10, ["stack", "queue"], 3, 205), "front")
        self.assertEqual(side(10, ["queue", "queue", "stack"], 3, 205), "front")
        self.assertEqual(side(10, ["queue", "stack", "queue"], 3, 205), "back")
        self.assertEqual(side(10, ["queue", "stack", "queue"], 3, 215), "front")

    def test_levels_beyond_the_list_have_the_last_word(self):
        self.assertEqual(side(10, ["queue", "stack"], 0, 100), "front")
        self.assertEqual(side(10, ["stack", "queue"], 0, 100), "back")
        self.assertEqual(side(10, ["stack", "queue"], 0, 101), "front")
        self.assertEqual(side(2, ["queue"] * 59 + ["stack"], 0, 2 ** 150), "front")
        self.assertEqual(side(2, ["queue"] * 59 + ["stack"], 0, 2 ** 58), "back")
        self.assertEqual(side(2, ["stack"] * 59 + ["queue"], 0, 2 ** 59), "back")

    def test_two_timers_of_a_stepping_wheel(self):
        for base in (2, 3, 10):
            for levels in (["stack"], ["queue"], ["stack", "queue"], ["queue", "stack"], ["stack", "stack", "queue"]):
                for now, due in itertools.product(range(0, 40, 5), range(1, 130, 4)):
                    if now < due:
                        wheel = StepWheel(base, levels, now)
                        wheel.put(due)
                        wheel.put(due)
                        [(at, fired)] = wheel.advance(due)
                        told = "front" if fired == [1, 0] else "back"
                        self.assertEqual(side(base, levels, now, due), told, (base, levels, now, due))

    def test_each_timer_goes_in_front_of_all_earlier_ones_or_behind_all(self):
        source = random.Random(5)
        for _ in range(100):
            base = source.choice([2, 3, 10])
            levels = [source.choice(["stack", "queue"]) for _ in range(source.randint(1, 5))]
            due = source.randint(20, 400)
            wheel = StepWheel(base, levels)
            order = []
            for now in sorted(source.randrange(due) for _ in range(8)):
                wheel.advance(now)
                number = wheel.put(due)
                order = [number] + order if side(base, levels, now, due) == "front" else order + [number]
            self.assertEqual(wheel.advance(due), [(due, order)])

    def test_sixty_digits(self):
        odd = int("1" * 59)
        self.assertEqual(side(10, ["stack"], 0, odd), "front")
        self.assertEqual(side(10, ["stack"], 0, odd * 10), "front")
        self.assertEqual(side(10, ["stack"], 0, odd * 10 + 9), "back")


class WrongArguments(unittest.TestCase):
    def test_bases(self):
        for base in not_bases():
            with self.assertRaises(NoBase, msg=repr(base)):
                stations(base, 3, 205)
            with self.assertRaises(NoBase, msg=repr(base)):
                side(base, ["stack"], 3, 205)

    def test_levels(self):
        for levels in not_levels():
            with self.assertRaises(NoLevels, msg=repr(levels)):
                side(10, levels, 3, 205)

    def test_sixty_words(self):
        self.assertEqual(side(10, ["stack"] * 60, 3, 4), "front")
        with self.assertRaises(NoLevels):
            side(10, ["stack"] * 61, 3, 4)

    def test_ticks(self):
        for tick in not_ticks():
            for now, due in [(tick, 205), (3, tick), (tick, tick)]:
                with self.assertRaises(NoTick, msg=repr((now, due))):
                    stations(10, now, due)
                with self.assertRaises(NoTick, msg=repr((now, due))):
                    side(10, ["stack"], now, due)

    def test_true_and_false_are_not_integers(self):
        for call in (lambda: stations(10, False, 5), lambda: stations(10, 0, True),
                     lambda: side(10, ["stack"], False, 5), lambda: side(10, ["stack"], 0, True)):
            with self.assertRaises(NoTick):
                call()

    def test_the_first_wrong_argument_tells(self):
        for wrong in (None, [], True):
            with self.assertRaises(NoBase):
                stations(wrong, wrong, wrong)
            with self.assertRaises(NoBase):
                side(wrong, wrong, wrong, wrong)
            with self.assertRaises(NoLevels):
                side(10, wrong, wrong, wrong)
            with self.assertRaises(NoTick):
                side(10, ["stack"], wrong, wrong)
        with self.assertRaises(NoBase):
            stations(1, 5, 5)
        with self.assertRaises(NoLevels):
            side(10, [], 5, 5)

    def test_arguments_are_not_changed(self):
        levels = ["stack", "queue", "queue"]
        side(10, levels, 3, 205)
        self.assertEqual(levels, ["stack", "queue", "queue"])


if __name__ == "__main__":
    unittest.main()
