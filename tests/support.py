"""What several test files use."""

from copy import deepcopy

from mazeguide.errors import MazeError

# Python refuses to write these in figures, so a message that names one would fail.
HUGE = 10 ** 5000
FAR_BELOW = -HUGE

# Four rooms in a ring with a loop, a double door and keys of several kinds:
#   0 -- 1 (no lock),  1 == 2 (lock 0, lock 3),  2 -- 3 (lock 4),  3 -- 0 (lock 1),
#   2 -- 2 (no lock),  3 -- 3 (lock 2)
RING = (
    4,
    [(0, 1, None), (2, 1, 3), (1, 2, 0), (2, 3, 4), (3, 0, 1), (2, 2, None), (3, 3, 2)],
    [(1, 3), (1, 0), (2, 4), (1, 3), (3, 1), (0, 2), (2, 4)],
)


def ring():
    """Give a RING of one's own."""
    return deepcopy(RING)


def outcome(function, *arguments):
    """Give what the function answers, or the very class of its refusal."""
    try:
        return function(*arguments)
    except MazeError as refusal:
        return type(refusal)


def outcome_unchanged(case, function, *arguments):
    """Give the outcome, and fail the case if an argument is changed by the call."""
    ahead = deepcopy(arguments)
    answer = outcome(function, *arguments)
    case.assertEqual(arguments, ahead)
    return answer
