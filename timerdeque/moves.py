"""How many moves timers take, counted by the digits of their due ticks."""

from timerdeque.checks import check_base, check_tick
from timerdeque.digits import path


def with_digit(base, size, behind):
    """How many ticks less than `behind` have a digit other than 0 where a 1 is worth `size`."""
    whole, rest = divmod(behind, size * base)
    return whole * size * (base - 1) + max(0, rest - size)


def dues_to_try(base, first, behind):
    """The due ticks from `first` to before `behind` that may be the least costliest one.

    They are `first` itself and, for each level, the next later tick that ends in zeros
    below this level, with ones in place of these zeros. For any other due tick a lesser
    one costs as much: the digits below its lowest 0 may be ones, and where the number
    from that 0 upwards is made less by one, at most one digit becomes 0 and that 0 none.
    """
    dues = [first]
    size, ones = 1, 0
    due = first + 1
    while due < behind:
        dues.append(due)
        size, ones = size * base, ones + size
        due = (first // size + 1) * size + ones
    return dues


def moves_in(base, now, first, behind):
    """The sum of the moves of timers set at `now`, one for each due tick from `first` to before `behind`."""
    check_base(base)
    check_tick(now)
    check_tick(first, now + 1)
    check_tick(behind, first)
    total, size = 0, 1
    while size < behind:
        # A level counts only where a due tick differs from `now` there or above:
        # from the next tick on that ends in zeros below this level.
        least = max(first, (now // size + 1) * size)
        if least < behind:
            total += with_digit(base, size, behind) - with_digit(base, size, least)
        size *= base
    return total


def costliest(base, now, first, behind):
    """The tuple (moves, due) of the greatest number of moves in this range and its least due tick."""
    check_base(base)
    check_tick(now)
    check_tick(first, now + 1)
    check_tick(behind, first + 1)
    rows = [(-len(path(base, now, due)), due) for due in dues_to_try(base, first, behind)]
    cost, due = min(rows)
    return (-cost, due)
