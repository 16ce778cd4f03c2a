"""Which levels agree with what was seen of a wheel.

A side tells whether an odd number of the stations are stacks. So a sighting is an
equation: a list of levels, ascending, and whether an odd number of them are stacks.
Two equations give a third one, with the levels that only one of the two has.
"""

from timerdeque.checks import check_base, is_length, is_tick
from timerdeque.digits import path
from timerdeque.errors import NoLevels, NoSighting

SIDES = ("front", "back")


def is_sighting(given):
    """Whether this is a sighting."""
    if not isinstance(given, tuple) or len(given) != 3:
        return False
    now, due, told = given
    if not is_tick(now) or not is_tick(due, now + 1):
        return False
    return isinstance(told, str) and told in SIDES


def check_many(many):
    """Raise NoLevels unless levels may have this length."""
    if not is_length(many):
        raise NoLevels("the length of levels is an integer from 1 to 60")


def check_seen(seen):
    """Raise NoSighting unless this is a list of sightings."""
    if not isinstance(seen, list) or not all([is_sighting(given) for given in seen]):
        raise NoSighting("sightings are a list of tuples (now, due, side)")


def equation(base, many, sighting):
    """The levels that tell the side of a sighting, and whether an odd number of them are stacks."""
    now, due, told = sighting
    rows = path(base, now, due)
    levels = sorted([level for level, digit, tick in rows if level < many - 1])
    # All other stations have the last word: two of them tell nothing.
    if (len(rows) - len(levels)) % 2 == 1:
        levels.append(many - 1)
    return levels, told == "front"


def reduced(levels, odd, known):
    """What an equation tells beside those that are known, each by its highest level."""
    while len(levels) > 0 and levels[-1] in known:
        others, other_odd = known[levels[-1]]
        levels = sorted(set(levels) ^ set(others))
        odd = odd != other_odd
    return levels, odd


def word_that_follows(words, levels, odd):
    """The word of the highest level of an equation, where the words below it are given."""
    stacks = [level for level in levels[:-1] if words[level] == "stack"]
    if (len(stacks) % 2 == 1) != odd:
        return "stack"
    return "queue"


def least_and_count(many, known):
    """The least list of levels of this length that fits the known equations, and how many do."""
    words = []
    count = 1
    for level in range(many):
        if level in known:
            levels, odd = known[level]
            words.append(word_that_follows(words, levels, odd))
        else:
            # Either word fits, whatever the lower levels have: higher levels make up for it.
            words.append("queue")
            count *= 2
    return words, count


def levels_seen(base, many, seen):
    """("levels", first, count) of the lists of levels that agree with all sightings, or ("none", k)."""
    check_base(base)
    check_many(many)
    check_seen(seen)
    known = {}
    for at, sighting in enumerate(seen):
        levels, odd = equation(base, many, sighting)
        levels, odd = reduced(levels, odd, known)
        if len(levels) > 0:
            known[levels[-1]] = (levels, odd)
        elif odd:
            return ("none", at + 1)
    first, count = least_and_count(many, known)
    return ("levels", first, count)
