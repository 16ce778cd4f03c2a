"""The errors of the package: one class for each kind of wrong argument."""


class TimerError(ValueError):
    """Every error that the package raises."""


class NoBase(TimerError):
    """Not an integer from 2 to 64."""


class NoLevels(TimerError):
    """Not a list of levels, or not a length of one."""


class NoTick(TimerError):
    """Not a tick, or one that does not lie where it must."""


class NoPeriod(TimerError):
    """Not a period, or not a periodic timer."""


class NoTimer(TimerError):
    """Not the number of a live timer."""


class NoOrder(TimerError):
    """Not a list of the numbers from 0 to m - 1, each once."""


class NoSighting(TimerError):
    """Not a list of sightings."""


class NoSnapshot(TimerError):
    """Not the snapshot of a wheel."""


class NoRow(TimerError):
    """Not a command, or not a list of commands."""


class TooMany(TimerError):
    """More firings, or more common ticks, than one call goes through."""
