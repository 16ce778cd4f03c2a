"""What counts as an integer, a base, levels, a tick and a period."""

from timerdeque.errors import NoBase, NoLevels, NoTick

WORDS = ("stack", "queue")
MOST_LEVELS = 60


def is_integer(given):
    """True and False are not integers here."""
    return isinstance(given, int) and not isinstance(given, bool)


def is_word(given):
    """Whether this is the word of a level."""
    return isinstance(given, str) and given in WORDS


def is_base(given):
    """Whether this is a base."""
    return is_integer(given) and 2 <= given <= 64


def is_length(given):
    """Whether levels may have this length."""
    return is_integer(given) and 1 <= given <= MOST_LEVELS


def are_levels(given):
    """Whether these are levels."""
    if not isinstance(given, list) or not is_length(len(given)):
        return False
    return all([is_word(word) for word in given])


def is_tick(given, least=0):
    """Whether this is a tick that is not less than `least`."""
    return is_integer(given) and given >= least


def is_period(given):
    """Whether this is the period of a periodic timer."""
    return is_integer(given) and given >= 1


def check_base(base):
    """Raise NoBase unless this is a base."""
    if not is_base(base):
        raise NoBase("a base is an integer from 2 to 64")


def check_levels(levels):
    """Raise NoLevels unless these are levels."""
    if not are_levels(levels):
        raise NoLevels("levels are a list of 1 to 60 words, each of them stack or queue")


def check_tick(tick, least=0):
    """Raise NoTick unless this is a tick that is not less than `least`."""
    if not is_tick(tick, least):
        raise NoTick("a tick is an integer >= 0, and not before the ticks that it must follow")
