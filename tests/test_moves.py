"""Point 10: moves_in and costliest."""

import inspect
import random
import time
import unittest

from stepwheel import StepWheel
from timerdeque import moves
from timerdeque.digits import stations
from timerdeque.errors import NoBase, NoTick
from timerdeque.moves import costliest, moves_in
from wrong import not_bases, not_ticks

HUGE = 10 ** 60 - 1


def stepped_moves(base, now, due):
    """How often a wheel that goes through the ticks puts the timer into a list."""
    wheel = StepWheel(base, ["queue"], now)
    wheel.put(due)
    wheel.advance(due)
    return 1 + wheel.moves


def rows_of(base, now, first, behind):
    return [(len(stations(base, now, due)), due) for due in range(first, behind)]


def greatest(rows):
    return max(rows, key=lambda row: (row[0], -row[1]))


class Interface(unittest.TestCase):
    def test_arguments(self):
        for made in (moves_in, costliest):
            self.assertEqual(str(inspect.signature(made)), "(base, now, first, behind)")

    def test_defined_in_their_file(self):
        for made in (moves_in, costliest):
            self.assertEqual(made.__module__, "timerdeque.moves")
            self.assertIs(getattr(moves, made.__name__), made)

    def test_by_name(self):
        self.assertEqual(moves_in(behind=100, first=1, now=0, base=10), 180)
        self.assertEqual(costliest(behind=100, first=1, now=0, base=10), (2, 11))

    def test_kinds_of_values(self):
        self.assertIs(type(moves_in(10, 0, 1, 100)), int)
        told = costliest(10, 0, 1, 100)
        self.assertIs(type(told), tuple)
        self.assertEqual([type(part) for part in told], [int, int])


class Ordinary(unittest.TestCase):
    def test_moves_in(self):
        self.assertEqual(moves_in(10, 0, 1, 2), 1)
        self.assertEqual(moves_in(10, 0, 1, 10), 9)
        self.assertEqual(moves_in(10, 0, 1, 11), 10)
        self.assertEqual(moves_in(10, 0, 1, 12), 12)
        self.assertEqual(moves_in(10, 0, 99, 102), 2 + 1 + 2)
        self.assertEqual(moves_in(10, 98, 99, 102), 1 + 1 + 2)
        self.assertEqual(moves_in(10, 3, 205, 206), 2)
        self.assertEqual(moves_in(10, 203, 205, 206), 1)

    def test_costliest(self):
        self.assertEqual(costliest(10, 0, 1, 2), (1, 1))
        self.assertEqual(costliest(10, 0, 1, 11), (1, 1))
        self.assertEqual(costliest(10, 0, 1, 12), (2, 11))
        self.assertEqual(costliest(10, 10, 11, 20), (1, 11))
        self.assertEqual(costliest(10, 10, 11, 21), (1, 11))
        self.assertEqual(costliest(10, 10, 11, 22), (2, 21))
        self.assertEqual(costliest(10, 0, 100, 111), (2, 101))
        self.assertEqual(costliest(10, 0, 112, 1000), (3, 112))
        self.assertEqual(costliest(10, 0, 120, 121), (2, 120))
        self.assertEqual(costliest(2, 0, 1, 16), (4, 15))
        self.assertEqual(costliest(2, 0, 1, 15), (3, 7))

    def test_the_least_due_tick_has_it(self):
        self.assertEqual(costliest(10, 0, 300, 400), (3, 311))
        self.assertEqual(costliest(10, 0, 399, 500), (3, 399))
        self.assertEqual(costliest(10, 0, 400, 500), (3, 411))
        self.assertEqual(costliest(10, 0, 400, 411), (2, 401))
        self.assertEqual(costliest(64, 0, 64, 64 * 64), (2, 65))

    def test_an_empty_range(self):
        for now, first in [(0, 1), (5, 6), (5, 10), (0, 10 ** 59), (10 ** 59 - 1, 10 ** 59)]:
            for base in (2, 10, 64):
                self.assertEqual(moves_in(base, now, first, first), 0)
                with self.assertRaises(NoTick):
                    costliest(base, now, first, first)


class Compared(unittest.TestCase):
    def test_a_stepping_wheel(self):
        for base in (2, 3, 10):
            for now in (0, 1, 7, 8, 26, 99):
                seen = [(stepped_moves(base, now, due), due) for due in range(now + 1, now + 125)]
                for at in range(0, 100, 9):
                    for many in (1, 2, 10, 24):
                        rows = seen[at:at + many]
                        first, behind = rows[0][1], rows[-1][1] + 1
                        self.assertEqual(moves_in(base, now, first, behind), sum(cost for cost, due in rows))
                        self.assertEqual(costliest(base, now, first, behind), greatest(rows))

    def test_all_narrow_ranges(self):
        for base in (2, 3, 4, 10):
            for now in (0, 1, 5, 9, 15):
                rows = rows_of(base, now, now + 1, now + 40)
                for low in range(len(rows)):
                    for high in range(low + 1, len(rows) + 1):
                        part = rows[low:high]
                        ends = (base, now, part[0][1], part[-1][1] + 1)
                        self.assertEqual(moves_in(*ends), sum(cost for cost, due in part), ends)
                        self.assertEqual(costliest(*ends), greatest(part), ends)

    def test_narrow_ranges_anywhere(self):
        source = random.Random(10)
        for _ in range(1500):
            base = source.choice([2, 3, 5, 10, 16, 63, 64])
            now = source.randrange(source.choice([1, 50, 3000, 10 ** 6, 10 ** 59]))
            first = now + 1 + source.choice([0, source.randrange(100), source.randrange(10 ** 5), 10 ** 40])
            near = base ** source.randrange(1, 6)
            if source.random() < 0.4:
                first = max(now + 1, (first // near + 1) * near - source.randrange(30))
            ends = (base, now, first, first + source.randrange(1, 90))
            rows = rows_of(*ends)
            self.assertEqual(moves_in(*ends), sum(cost for cost, due in rows), ends)
            self.assertEqual(costliest(*ends), greatest(rows), ends)

    def test_ranges_beside_one_another_add_up(self):
        source = random.Random(11)
        for _ in range(500):
            base = source.randint(2, 64)
            now = source.randrange(10 ** source.randint(0, 59))
            first, middle, behind = sorted(now + 1 + source.randrange(10 ** source.randint(0, 59)) for _ in range(3))
            whole = moves_in(base, now, first, behind)
            self.assertEqual(whole, moves_in(base, now, first, middle) + moves_in(base, now, middle, behind))
            if first < middle < behind:
                parts = [costliest(base, now, first, middle), costliest(base, now, middle, behind)]
                self.assertEqual(costliest(base, now, first, behind), greatest(parts))


class Wide(unittest.TestCase):
    def test_all_numbers_of_some_digits(self):
        # Of base ** n numbers with n digits, each digit is other than 0 in all but one of base cases.
        for base in (2, 3, 10, 64):
            for many in (1, 5, 30):
                told = moves_in(base, 0, 1, base ** many)
                self.assertEqual(told, many * (base - 1) * base ** (many - 1))
                ones = sum(base ** level for level in range(many))
                self.assertEqual(costliest(base, 0, 1, base ** many), (many, ones))
        self.assertEqual(moves_in(10, 0, 1, 10 ** 59), 59 * 9 * 10 ** 58)

    def test_sixty_digits(self):
        ones = int("1" * 60)
        self.assertEqual(costliest(10, 0, 1, HUGE), (60, ones))
        self.assertEqual(costliest(10, 0, 1, ones), (59, ones // 10))
        self.assertEqual(costliest(10, 0, ones + 1, HUGE), (60, ones + 1))
        self.assertEqual(costliest(10, 10 ** 59, 10 ** 59 + 1, HUGE), (60, ones + 10 ** 59))
        self.assertEqual(costliest(10, 10 ** 59, 10 ** 59 + 1, 2 * 10 ** 59), (59, ones))
        self.assertEqual(moves_in(10, HUGE - 5, HUGE - 4, HUGE), 4)

    def test_ends_far_apart_are_answered_at_once(self):
        begun = time.process_time()
        for base in (2, 3, 10, 64):
            for now in (0, 12345, 10 ** 59 - 1, 5 * 10 ** 59 + 7):
                cost, due = costliest(base, now, now + 1, HUGE)
                self.assertEqual(cost, len(stations(base, now, due)))
                self.assertGreater(moves_in(base, now, now + 1, HUGE), HUGE - now)
        self.assertLess(time.process_time() - begun, 5)


class WrongArguments(unittest.TestCase):
    def each(self, error, *given):
        for call in (moves_in, costliest):
            with self.assertRaises(error, msg=repr(given)):
                call(*given)

    def test_bases(self):
        for base in not_bases():
            self.each(NoBase, base, 0, 1, 100)

    def test_ticks(self):
        for tick in not_ticks():
            self.each(NoTick, 10, tick, 1, 100)
            self.each(NoTick, 10, 0, tick, 100)
            self.each(NoTick, 10, 0, 1, tick)
            self.each(NoTick, 10, tick, tick, tick)

    def test_first_is_greater_than_now(self):
        for now, first in [(0, 0), (5, 5), (5, 4), (5, 0), (10 ** 59, 10 ** 59), (10 ** 59, 3)]:
            self.each(NoTick, 10, now, first, 10 ** 59 + 5)
            self.each(NoTick, 10, now, first, first)

    def test_behind_is_not_less_than_first(self):
        for first, behind in [(5, 4), (5, 0), (100, 99), (10 ** 59, 10 ** 59 - 1), (10 ** 59, 1)]:
            self.each(NoTick, 10, 0, first, behind)

    def test_the_first_wrong_argument_tells(self):
        for wrong in (None, [], True, -1):
            self.each(NoBase, wrong, wrong, wrong, wrong)
            self.each(NoBase, wrong, 0, 1, wrong)
            self.each(NoTick, 10, wrong, wrong, wrong)
        self.each(NoBase, 1, 5, 5, 4)
        self.each(NoBase, 65, 0, 5, 4)


if __name__ == "__main__":
    unittest.main()
