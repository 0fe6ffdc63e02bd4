"""Bounds: from which cell to which, and which of them few bits can tell."""

from sealedreach.errors import NoBounds
from sealedreach.whole import is_whole

CELLS = 4096
TOP_STEP = 8
TOP_COUNT = 16
# Above step 0 a smaller count would be told by a smaller step as well.
LEAST_COUNT = 9


def are_bounds(low, high):
    """Tell of anything whether it is bounds."""
    return is_whole(low, 0, CELLS) and is_whole(high, 0, CELLS) and low < high


def look_at_bounds(low, high):
    """Refuse what is no bounds."""
    if not are_bounds(low, high):
        raise NoBounds("bounds are two whole numbers from 0 to 4096, low less than high")


def is_exact(low, high):
    """Tell whether some bits tell just these bounds."""
    return least_bounds(low, high) == (low, high)


def least_bounds(low, high):
    """Tell the least bounds that bits can tell and that hold these."""
    step, first, count = in_bits(low, high)
    return first << step, (first + count) << step


def in_bits(low, high):
    """Tell the step, first and count of the least bounds that hold these."""
    look_at_bounds(low, high)
    step = 0
    while _steps_over(low, high, step) > TOP_COUNT:
        step += 1
    return step, low >> step, _steps_over(low, high, step)


def room_of(many):
    """Tell of a number of cells the size and the step of its room."""
    # From any multiple of a step on so many cells are told as from address 0 on.
    step, _, count = in_bits(0, many)
    return count << step, step


def greatest_high(low, high):
    """Tell the greatest high, not above this one, with which low is told exactly."""
    look_at_bounds(low, high)
    # Any count of a greater step reaches farther than all counts of a smaller one.
    step = TOP_STEP
    while step > 0 and not _can_begin(low, high, step):
        step -= 1
    return low + (min(TOP_COUNT, (high - low) >> step) << step)


def _steps_over(low, high, step):
    first = low >> step
    behind = (high + (1 << step) - 1) >> step
    return behind - first


def _can_begin(low, high, step):
    return low % (1 << step) == 0 and (high - low) >> step >= LEAST_COUNT
