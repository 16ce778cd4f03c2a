"""Point 14: told_apart."""

import inspect
import itertools
import random
import time
import unittest

from timerdeque import plans
from timerdeque.digits import side
from timerdeque.errors import NoBase, NoLevels
from timerdeque.plans import told_apart
from timerdeque.wheel import Wheel
from wrong import not_bases, not_levels

WORDS = ["stack", "queue"]
SHORT = [list(levels) for many in (1, 2, 3) for levels in itertools.product(WORDS, repeat=many)]


class Sides:
    """The sides of all due ticks less than `end`, kept for each wheel."""

    def __init__(self, end):
        self.end, self.kept = end, {}

    def of(self, base, levels):
        key = (base, tuple(levels))
        if key not in self.kept:
            self.kept[key] = [[side(base, levels, now, due) for now in range(due)] for due in range(self.end)]
        return self.kept[key]

    def searched(self, base, levels, other_base, other_levels):
        one, other = self.of(base, levels), self.of(other_base, other_levels)
        for due in range(self.end):
            if one[due] != other[due]:
                return ("apart", due, [a == b for a, b in zip(one[due], other[due])].index(False))
        return None


def fired(base, levels, now, due):
    """How a wheel that goes through the ticks fires two timers, both set at `now`."""
    wheel = Wheel(base, levels)
    for tick in range(1, now + 1):
        wheel.advance(tick)
    wheel.put(due)
    wheel.put(due)
    numbers = []
    for tick in range(now + 1, due + 1):
        for at, some in wheel.advance(tick):
            numbers.extend(some)
    return numbers


class Interface(unittest.TestCase):
    def test_arguments(self):
        self.assertEqual(str(inspect.signature(told_apart)), "(base, levels, other_base, other_levels)")

    def test_defined_in_its_file(self):
        self.assertEqual(told_apart.__module__, "timerdeque.plans")
        self.assertIs(plans.told_apart, told_apart)

    def test_by_name(self):
        told = told_apart(other_levels=["queue"], other_base=10, levels=["queue", "stack"], base=10)
        self.assertEqual(told, ("apart", 10, 0))

    def test_kinds_of_values(self):
        told = told_apart(10, ["queue", "stack"], 10, ["queue"])
        self.assertIs(type(told), tuple)
        self.assertEqual([type(part) for part in told], [str, int, int])
        self.assertIs(type(told_apart(10, ["queue"], 10, ["queue"])), tuple)


class OneBase(unittest.TestCase):
    def test_the_first_level_with_two_words(self):
        self.assertEqual(told_apart(10, ["queue", "stack"], 10, ["queue"]), ("apart", 10, 0))
        self.assertEqual(told_apart(10, ["queue"], 10, ["stack"]), ("apart", 1, 0))
        self.assertEqual(told_apart(10, ["stack"], 10, ["queue", "stack"]), ("apart", 1, 0))
        self.assertEqual(told_apart(10, ["stack", "stack", "queue"], 10, ["stack"]), ("apart", 100, 0))
        self.assertEqual(told_apart(2, ["stack", "queue", "stack", "queue"], 2, ["stack", "queue"]), ("apart", 4, 0))

    def test_alike(self):
        for base in (2, 10, 64):
            self.assertEqual(told_apart(base, ["stack"], base, ["stack", "stack"]), ("alike",))
            self.assertEqual(told_apart(base, ["queue", "stack"], base, ["queue"] + ["stack"] * 59), ("alike",))
            for levels in SHORT:
                self.assertEqual(told_apart(base, levels, base, list(levels)), ("alike",))
                self.assertEqual(told_apart(base, levels, base, levels + levels[-1:] * 57), ("alike",))

    def test_the_last_of_sixty_words(self):
        for base in (2, 10, 64):
            for one, other in [WORDS, WORDS[::-1]]:
                told = told_apart(base, [one] * 60, base, [one] * 59 + [other])
                self.assertEqual(told, ("apart", base ** 59, 0))
                self.assertEqual(told_apart(base, [one], base, [one] * 59 + [other]), told)
                self.assertEqual(told_apart(base, [one] * 59 + [other], base, [one]), told)
                self.assertEqual(told_apart(base, [one], base, [one] * 58 + [other, one]), ("apart", base ** 58, 0))


class TwoBases(unittest.TestCase):
    def test_queues_alone(self):
        for base, other_base in itertools.product((2, 3, 7, 10, 63, 64), repeat=2):
            self.assertEqual(told_apart(base, ["queue"], other_base, ["queue"] * 60), ("alike",))

    def test_a_stack_comes_first_in_one(self):
        self.assertEqual(told_apart(2, ["stack"], 7, ["queue"]), ("apart", 1, 0))
        self.assertEqual(told_apart(2, ["queue"], 7, ["stack"]), ("apart", 1, 0))
        self.assertEqual(told_apart(2, ["queue"], 7, ["queue", "stack"]), ("apart", 7, 0))
        self.assertEqual(told_apart(2, ["queue", "stack"], 7, ["queue", "stack"]), ("apart", 2, 0))
        self.assertEqual(told_apart(2, ["queue"] * 5 + ["stack"], 7, ["queue", "stack"]), ("apart", 7, 0))
        self.assertEqual(told_apart(63, ["queue"] * 59 + ["stack"], 64, ["queue"]), ("apart", 63 ** 59, 0))

    def test_the_lowest_level_is_a_stack_in_both(self):
        self.assertEqual(told_apart(10, ["stack"], 7, ["stack"]), ("apart", 8, 0))
        self.assertEqual(told_apart(7, ["stack", "queue"], 10, ["stack"]), ("apart", 7, 0))
        self.assertEqual(told_apart(7, ["stack"], 10, ["stack", "queue"]), ("apart", 8, 0))

    def test_the_lowest_level_is_a_stack_in_both_and_one_base_follows_the_other(self):
        # 8 is 10 in base 8 and 11 in base 7: there the side turns round at 7.
        self.assertEqual(told_apart(7, ["stack"], 8, ["stack"]), ("apart", 8, 0))
        self.assertEqual(told_apart(7, ["stack"], 8, ["stack", "queue"]), ("apart", 8, 7))
        self.assertEqual(told_apart(8, ["stack", "queue"], 7, ["stack"]), ("apart", 8, 7))
        self.assertEqual(told_apart(2, ["stack"], 3, ["stack", "queue"]), ("apart", 3, 2))
        self.assertEqual(told_apart(63, ["stack"], 64, ["stack", "queue"]), ("apart", 64, 63))
        self.assertEqual(told_apart(7, ["stack", "queue"], 8, ["stack", "queue"]), ("apart", 7, 0))

    def test_both_have_their_lowest_stack_at_the_same_due_tick(self):
        for base, low, other_base, other_low in [(2, 2, 4, 1), (2, 3, 8, 1), (4, 3, 8, 2), (3, 2, 9, 1), (2, 6, 64, 1),
                                                 (8, 2, 64, 1), (2, 59, 2, 59), (4, 30, 8, 20), (16, 15, 4, 30)]:
            size = base ** low
            self.assertEqual(size, other_base ** other_low)
            one, other = ["queue"] * low + ["stack"], ["queue"] * other_low + ["stack"]
            least, least_words, greater_words = min((base, one, other), (other_base, other, one))
            greater = max(base, other_base)
            if least < greater:
                told = told_apart(least, least_words, greater, greater_words)
                self.assertEqual(told, ("apart", (least + 1) * size, 0))
                self.assertEqual(told_apart(greater, greater_words, least, least_words), told)
                told = told_apart(least, least_words + ["queue"], greater, greater_words)
                self.assertEqual(told, ("apart", least * size, 0))
            else:
                self.assertEqual(told_apart(base, one, other_base, other), ("alike",))


class Compared(unittest.TestCase):
    def test_all_due_ticks_of_a_short_range(self):
        sides = Sides(75)
        counts = {"apart": 0, "alike": 0}
        for base, other_base in itertools.product((2, 3, 4, 8, 9, 10), repeat=2):
            for levels, other_levels in itertools.product(SHORT, repeat=2):
                told = told_apart(base, levels, other_base, other_levels)
                found = sides.searched(base, levels, other_base, other_levels)
                given = (base, levels, other_base, other_levels)
                if told[0] == "alike" or told[1] >= 75:
                    self.assertIsNone(found, given)
                else:
                    self.assertEqual(told, found, given)
                counts[told[0]] += 1
        self.assertGreater(min(counts.values()), 50)

    def test_longer_levels(self):
        sides = Sides(330)
        quiet = ["queue"]
        for base, levels, other_base, other_levels in [
                (4, quiet * 3 + ["stack"], 8, quiet * 2 + ["stack"]),
                (4, quiet * 3 + ["stack", "queue"], 8, quiet * 2 + ["stack"]),
                (2, quiet * 6 + ["stack"], 8, quiet * 2 + ["stack", "queue"]),
                (2, quiet * 6 + ["stack"], 4, quiet * 3 + ["stack"]),
                (2, quiet * 4 + ["stack"], 16, quiet + ["stack"]),
                (3, quiet * 4 + ["stack"], 9, quiet * 2 + ["stack"])]:
            told = told_apart(base, levels, other_base, other_levels)
            self.assertLess(told[1], 330)
            self.assertEqual(told, sides.searched(base, levels, other_base, other_levels))
            self.assertEqual(told, told_apart(other_base, other_levels, base, levels))

    def test_wheels_that_go_through_the_ticks(self):
        source = random.Random(14)
        for _ in range(120):
            base, other_base = source.choice([2, 3, 4, 7]), source.choice([2, 3, 4, 8])
            levels, other_levels = source.choice(SHORT), source.choice(SHORT)
            told = told_apart(base, levels, other_base, other_levels)
            due, now = told[1:] if told[0] == "apart" else (40, 0)
            if told[0] == "apart":
                self.assertNotEqual(fired(base, levels, now, due), fired(other_base, other_levels, now, due))
            for before in range(now if told[0] == "apart" else due):
                self.assertEqual(fired(base, levels, before, due), fired(other_base, other_levels, before, due))
            for earlier in range(1, min(due, 16)):
                for tick in range(earlier):
                    self.assertEqual(fired(base, levels, tick, earlier), fired(other_base, other_levels, tick, earlier))

    def test_at_once(self):
        begun = time.process_time()
        source = random.Random(15)
        for _ in range(200):
            base, other_base = source.choice([2, 8, 64]), source.choice([2, 8, 64])
            levels = ["queue"] * source.randrange(59) + ["stack"]
            other_levels = ["queue"] * source.randrange(59) + ["stack"]
            told = told_apart(base, levels, other_base, other_levels)
            if told[0] == "apart":
                self.assertNotEqual(side(base, levels, told[2], told[1]),
                                    side(other_base, other_levels, told[2], told[1]))
        self.assertLess(time.process_time() - begun, 5)


class WrongArguments(unittest.TestCase):
    def test_each_alone(self):
        for base in not_bases():
            for given in [(base, ["stack"], 10, ["queue"]), (10, ["stack"], base, ["queue"]),
                          (base, ["stack"], base, ["stack"])]:
                with self.assertRaises(NoBase, msg=repr(base)):
                    told_apart(*given)
        for levels in not_levels():
            for given in [(10, levels, 10, ["queue"]), (10, ["stack"], 10, levels), (10, levels, 7, levels)]:
                with self.assertRaises(NoLevels, msg=repr(levels)):
                    told_apart(*given)

    def test_the_first_wrong_argument_tells(self):
        for wrong in (None, [], True, -1):
            for at, error in enumerate([NoBase, NoLevels, NoBase, NoLevels]):
                given = [10, ["stack"], 7, ["queue"]][:at] + [wrong] * (4 - at)
                with self.assertRaises(error):
                    told_apart(*given)
            with self.assertRaises(NoLevels):
                told_apart(10, wrong, wrong, ["stack"])

    def test_arguments_stay_as_they_are(self):
        levels, other_levels = ["stack", "queue", "queue"], ["queue", "queue"]
        told_apart(10, levels, 7, other_levels)
        told_apart(10, levels, 10, other_levels)
        self.assertEqual((levels, other_levels), (["stack", "queue", "queue"], ["queue", "queue"]))


if __name__ == "__main__":
    unittest.main()
