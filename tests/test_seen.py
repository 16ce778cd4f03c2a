"""Point 15: levels_seen."""

import copy
import inspect
import itertools
import random
import time
import unittest

from stepwheel import StepWheel
from timerdeque import seen as module
from timerdeque.digits import side
from timerdeque.errors import NoBase, NoLevels, NoSighting
from timerdeque.seen import levels_seen
from wrong import not_bases, not_lengths, not_seen

LAST = 10 ** 60 - 1


def seen_side(base, levels, now, due):
    """On which side a timer fires in a wheel that goes through the ticks."""
    wheel = StepWheel(base, levels, now)
    wheel.put(due)
    wheel.put(due)
    return {(1, 0): "front", (0, 1): "back"}[tuple(wheel.advance(due)[-1][1])]


def searched(base, many, seen, told=side):
    """What levels_seen() returns, by a search through all lists of levels."""
    left = [list(words) for words in itertools.product(("queue", "stack"), repeat=many)]
    for at, (now, due, expected) in enumerate(seen, 1):
        left = [levels for levels in left if told(base, levels, now, due) == expected]
        if not left:
            return ("none", at)
    return ("levels", left[0], len(left))


def random_sighting(source, base, most, levels=None):
    due = source.randint(1, most)
    now = source.choice([0, source.randrange(due), max(0, due - source.randint(1, base))])
    return (now, due, side(base, levels, now, due) if levels else source.choice(["front", "back"]))


class Interface(unittest.TestCase):
    def test_arguments(self):
        self.assertEqual(str(inspect.signature(levels_seen)), "(base, many, seen)")

    def test_defined_in_its_file(self):
        self.assertEqual(levels_seen.__module__, "timerdeque.seen")
        self.assertIs(module.levels_seen, levels_seen)

    def test_by_name(self):
        self.assertEqual(levels_seen(seen=[(0, 5, "front")], many=1, base=10), ("levels", ["stack"], 1))

    def test_kinds_of_values(self):
        told = levels_seen(10, 3, [(0, 12, "front")])
        self.assertEqual([type(part) for part in told], [str, list, int])
        self.assertIs(type(told), tuple)
        told = levels_seen(10, 3, [(0, 12, "front"), (0, 12, "back")])
        self.assertEqual([type(part) for part in told], [str, int])
        self.assertIs(type(told), tuple)


class Agreeing(unittest.TestCase):
    def test_no_sightings(self):
        for base, many in itertools.product((2, 10, 64), (1, 2, 7, 60)):
            self.assertEqual(levels_seen(base, many, []), ("levels", ["queue"] * many, 2 ** many))

    def test_one_station(self):
        self.assertEqual(levels_seen(10, 1, [(0, 5, "front")]), ("levels", ["stack"], 1))
        self.assertEqual(levels_seen(10, 1, [(0, 5, "back")]), ("levels", ["queue"], 1))
        self.assertEqual(levels_seen(10, 3, [(0, 5, "front")]), ("levels", ["stack", "queue", "queue"], 4))
        self.assertEqual(levels_seen(10, 3, [(0, 50, "front")]), ("levels", ["queue", "stack", "queue"], 4))
        self.assertEqual(levels_seen(10, 3, [(0, 500, "back")]), ("levels", ["queue"] * 3, 4))

    def test_the_queue_comes_first_and_index_0_counts_most(self):
        self.assertEqual(levels_seen(10, 2, [(0, 12, "front")]), ("levels", ["queue", "stack"], 2))
        self.assertEqual(levels_seen(10, 4, [(0, 1234, "front")]), ("levels", ["queue"] * 3 + ["stack"], 8))
        self.assertEqual(levels_seen(10, 4, [(0, 123, "front"), (0, 1204, "front")]),
                         ("levels", ["queue", "queue", "stack", "queue"], 4))
        self.assertEqual(levels_seen(10, 3, [(0, 110, "front"), (0, 101, "back")]),
                         ("levels", ["queue", "stack", "queue"], 2))
        self.assertEqual(levels_seen(10, 3, [(0, 110, "back"), (0, 101, "front")]),
                         ("levels", ["queue", "stack", "stack"], 2))

    def test_the_tick_of_setting_counts(self):
        self.assertEqual(levels_seen(10, 3, [(3, 205, "front")]), ("levels", ["queue", "queue", "stack"], 4))
        self.assertEqual(levels_seen(10, 3, [(200, 205, "front")]), ("levels", ["stack", "queue", "queue"], 4))
        self.assertEqual(levels_seen(10, 3, [(3, 205, "back"), (204, 205, "front")]),
                         ("levels", ["stack", "queue", "stack"], 2))

    def test_sightings_that_follow_from_earlier_ones(self):
        seen = [(0, 12, "front"), (0, 5, "back")]
        told = levels_seen(10, 4, seen)
        self.assertEqual(told, ("levels", ["queue", "stack", "queue", "queue"], 4))
        for more in ([(3, 20, "front")], [(0, 99, "front")], seen, [(0, 12, "front")] * 50, [(0, 1, "back"), (11, 12, "back")]):
            self.assertEqual(levels_seen(10, 4, seen + more), told)
            self.assertEqual(levels_seen(10, 4, more + seen), told)

    def test_the_order_of_the_sightings_does_not_count(self):
        seen = [(0, 1234, "front"), (3, 205, "back"), (0, 50, "front"), (199, 1000, "back")]
        told = {repr(levels_seen(10, 4, list(row))) for row in itertools.permutations(seen)}
        self.assertEqual(told, {repr(searched(10, 4, seen))})


class LastWord(unittest.TestCase):
    def test_it_counts_for_all_higher_levels(self):
        self.assertEqual(levels_seen(10, 1, [(0, 12, "back")]), ("levels", ["queue"], 2))
        self.assertEqual(levels_seen(10, 1, [(0, 12, "front")]), ("none", 1))
        self.assertEqual(levels_seen(10, 1, [(0, 123, "front")]), ("levels", ["stack"], 1))
        self.assertEqual(levels_seen(10, 1, [(0, 10 ** 50, "front")]), ("levels", ["stack"], 1))
        self.assertEqual(levels_seen(10, 2, [(0, 1234, "front")]), ("levels", ["queue", "stack"], 2))
        self.assertEqual(levels_seen(10, 2, [(0, 1230, "front")]), ("levels", ["queue", "stack"], 2))
        self.assertEqual(levels_seen(10, 2, [(0, 1204, "front")]), ("levels", ["stack", "queue"], 2))
        self.assertEqual(levels_seen(10, 3, [(0, 1204, "back")]), ("levels", ["queue"] * 3, 4))
        self.assertEqual(levels_seen(10, 3, [(0, 1204, "front")]), ("levels", ["stack", "queue", "queue"], 4))

    def test_two_stations_above_the_list_tell_nothing(self):
        self.assertEqual(levels_seen(10, 2, [(0, 1200, "back")]), ("levels", ["queue", "queue"], 4))
        self.assertEqual(levels_seen(10, 2, [(0, 1200, "back"), (0, 1200, "front")]), ("none", 2))
        self.assertEqual(levels_seen(10, 60, [(0, 10 ** 61 + 10 ** 60, "front")]), ("none", 1))

    def test_the_number_of_levels_changes_the_answer(self):
        seen = [(0, 120, "front"), (0, 10, "front")]
        self.assertEqual(levels_seen(10, 1, seen), ("none", 1))
        self.assertEqual(levels_seen(10, 2, seen), ("none", 1))
        self.assertEqual(levels_seen(10, 3, seen), ("levels", ["queue", "stack", "queue"], 2))


class Contradicting(unittest.TestCase):
    def test_the_least_k(self):
        good = [(0, 12, "front"), (0, 5, "back")]
        for wrong in [(3, 20, "back"), (0, 12, "back"), (0, 5, "front"), (11, 12, "front"), (0, 30, "back")]:
            self.assertEqual(levels_seen(10, 2, good + [wrong]), ("none", 3))
            self.assertEqual(levels_seen(10, 2, good + [wrong] + good), ("none", 3))
            self.assertEqual(levels_seen(10, 2, good + [(0, 77, "front"), wrong, wrong]), ("none", 4))
            self.assertEqual(levels_seen(10, 2, good * 20 + [wrong]), ("none", 41))

    def test_the_first_and_the_second(self):
        self.assertEqual(levels_seen(2, 1, [(0, 3, "front")]), ("none", 1))
        self.assertEqual(levels_seen(2, 1, [(0, 3, "front"), (0, 1, "back"), (0, 1, "front")]), ("none", 1))
        self.assertEqual(levels_seen(2, 5, [(0, 3, "front"), (0, 3, "back")]), ("none", 2))

    def test_three_that_agree_two_by_two(self):
        seen = [(0, 11, "front"), (0, 110, "front"), (0, 101, "front")]
        for row in itertools.permutations(seen):
            self.assertEqual(levels_seen(10, 3, list(row)), ("none", 3))
        for pair in itertools.permutations(seen, 2):
            self.assertEqual(levels_seen(10, 3, list(pair))[0], "levels")
            self.assertEqual(levels_seen(10, 3, list(pair))[2], 2)


class Searched(unittest.TestCase):
    def test_all_pairs_of_small_sightings(self):
        seen = [(now, due, told) for due in range(1, 9) for now in range(due) for told in ("front", "back")]
        for many in (1, 2, 3):
            for pair in itertools.product(seen, repeat=2):
                self.assertEqual(levels_seen(2, many, list(pair)), searched(2, many, list(pair)), (many, pair))

    def test_a_wheel_that_goes_through_the_ticks(self):
        source = random.Random(15)
        for _ in range(150):
            base, many = source.choice([2, 3, 4]), source.randint(1, 3)
            seen = [random_sighting(source, base, 60) for _ in range(source.randint(0, 4))]
            self.assertEqual(levels_seen(base, many, seen), searched(base, many, seen, seen_side), (base, many, seen))

    def test_random_sightings(self):
        source = random.Random(16)
        kinds = set()
        for _ in range(900):
            base, many = source.choice([2, 2, 3, 10, 64]), source.randint(1, 6)
            most = base ** source.randint(1, 9)
            seen = [random_sighting(source, base, most) for _ in range(source.randint(0, 9))]
            told = levels_seen(base, many, seen)
            self.assertEqual(told, searched(base, many, seen), (base, many, seen))
            kinds.add(told[0] if told[0] == "levels" else told[1])
        self.assertLess({"levels", 1, 2, 3, 4, 5}, kinds)

    def test_sightings_of_one_wheel(self):
        source = random.Random(17)
        for _ in range(400):
            base, many = source.choice([2, 3, 10]), source.randint(1, 8)
            levels = [source.choice(["queue", "stack"]) for _ in range(many)]
            seen = [random_sighting(source, base, base ** 10, levels) for _ in range(source.randint(1, 12))]
            told = levels_seen(base, many, seen)
            self.assertEqual(told, searched(base, many, seen))
            self.assertLessEqual(told[1], levels)


class SixtyLevels(unittest.TestCase):
    def test_each_level_seen_alone(self):
        source = random.Random(18)
        levels = [source.choice(["queue", "stack"]) for _ in range(60)]
        sides = {"stack": "front", "queue": "back"}
        seen = [(0, 2 ** level, sides[word]) for level, word in enumerate(levels)]
        self.assertEqual(levels_seen(2, 60, seen), ("levels", levels, 1))
        self.assertEqual(levels_seen(2, 60, seen[::-1]), ("levels", levels, 1))
        self.assertEqual(levels_seen(2, 60, seen[:59]), ("levels", levels[:59] + ["queue"], 2))
        self.assertEqual(levels_seen(2, 60, seen[:1]), ("levels", [levels[0]] + ["queue"] * 59, 2 ** 59))
        wrong = (0, 2 ** 60 - 1, "back" if levels.count("stack") % 2 else "front")
        self.assertEqual(levels_seen(2, 60, seen + [wrong]), ("none", 61))
        self.assertEqual(levels_seen(2, 60, [wrong] + seen), ("none", 61))

    def test_neighbours(self):
        chain = [(0, 2 ** level + 2 ** (level + 1), "front") for level in range(59)]
        self.assertEqual(levels_seen(2, 60, chain), ("levels", ["queue", "stack"] * 30, 2))
        self.assertEqual(levels_seen(2, 60, chain + [(0, 2 ** 59, "back")]), ("levels", ["stack", "queue"] * 30, 1))
        self.assertEqual(levels_seen(2, 60, chain + [(0, 2 ** 59 + 1, "back")]), ("none", 60))

    def test_at_once(self):
        source = random.Random(19)
        begun = time.process_time()
        for base, length in [(2, 18), (2, 60), (3, 60), (10, 60), (64, 60)]:
            for _ in range(4):
                levels = [source.choice(["queue", "stack"]) for _ in range(60)]
                seen = [random_sighting(source, base, 10 ** length - 1, levels) for _ in range(60)]
                kind, first, count = levels_seen(base, 60, seen)
                self.assertEqual((kind, len(first), count & (count - 1)), ("levels", 60, 0))
                self.assertLessEqual(first, levels)
                for now, due, told in seen:
                    self.assertEqual(side(base, first, now, due), told)
        self.assertLess(time.process_time() - begun, 10)

    def test_one_call_at_once(self):
        source = random.Random(20)
        levels = [source.choice(["queue", "stack"]) for _ in range(60)]
        seen = [random_sighting(source, 2, LAST, levels) for _ in range(60)]
        begun = time.process_time()
        levels_seen(2, 60, seen)
        self.assertLess(time.process_time() - begun, 1)

    def test_ticks_of_sixty_digits(self):
        # The due tick has 9 as its digit at all levels.
        self.assertEqual(levels_seen(10, 60, [(0, LAST, "front")]), ("levels", ["queue"] * 59 + ["stack"], 2 ** 59))
        self.assertEqual(levels_seen(10, 60, [(LAST - 1, LAST, "front")]), ("levels", ["stack"] + ["queue"] * 59, 2 ** 59))
        self.assertEqual(levels_seen(10, 1, [(0, LAST, "front")]), ("none", 1))
        self.assertEqual(levels_seen(10, 2, [(0, LAST, "front")]), ("levels", ["queue", "stack"], 2))
        self.assertEqual(levels_seen(10, 3, [(0, LAST, "front")]), ("levels", ["queue", "stack", "queue"], 4))


class WrongArguments(unittest.TestCase):
    def test_bases(self):
        for base in not_bases():
            with self.assertRaises(NoBase, msg=repr(base)):
                levels_seen(base, 2, [(0, 12, "front")])

    def test_lengths(self):
        for many in not_lengths():
            with self.assertRaises(NoLevels, msg=repr(many)):
                levels_seen(10, many, [(0, 12, "front")])
        for many in (1, 60):
            self.assertEqual(len(levels_seen(10, many, [])[1]), many)

    def test_sightings(self):
        for seen in not_seen():
            with self.assertRaises(NoSighting, msg=repr(seen)):
                levels_seen(10, 2, seen)

    def test_a_wrong_one_behind_a_contradiction(self):
        for wrong in (None, (5, 5, "back"), (0, 5, "side"), [0, 5, "back"], (True, 5, "back")):
            with self.assertRaises(NoSighting):
                levels_seen(10, 2, [(0, 12, "front"), (0, 12, "back"), wrong])

    def test_the_first_wrong_argument_tells(self):
        for wrong in (None, [], True, -1, (0,), {}):
            with self.assertRaises(NoBase):
                levels_seen(wrong, wrong, wrong)
            with self.assertRaises(NoLevels):
                levels_seen(10, wrong, wrong)
            with self.assertRaises(NoLevels):
                levels_seen(10, wrong, [wrong])

    def test_arguments_are_not_changed(self):
        for seen in ([(0, 12, "front"), (0, 5, "back"), (0, 12, "front")], [(0, 12, "front"), (0, 12, "back")], []):
            before = copy.deepcopy(seen)
            levels_seen(10, 3, seen)
            self.assertEqual(seen, before)

    def test_the_returned_list_is_new(self):
        told = levels_seen(10, 2, [(0, 12, "front")])
        told[1].append("stack")
        told[1][0] = "stack"
        self.assertEqual(levels_seen(10, 2, [(0, 12, "front")]), ("levels", ["queue", "stack"], 2))


if __name__ == "__main__":
    unittest.main()
