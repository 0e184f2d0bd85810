"""What several test files use."""

from copy import deepcopy

from mazeguide.errors import MazeError

# Python refuses to write these in figures, so a message that names one would fail.
HUGE = 10 ** 5000
FAR_BELOW = -HUGE

# Four rooms in a ring with a loop, a double door and keys of several kinds:
#   0 -- 1 (no lock),  1 == 2 (lock 0, lock 3),  2 -- 3 (lock 4),  3 -- 0 (lock 1),
#   2 -- 2 (no lock),  3 -- 3 (lock 2)
RING = (
    4,
    [(0, 1, None), (2, 1, 3), (1, 2, 0), (2, 3, 4), (3, 0, 1), (2, 2, None), (3, 3, 2)],
    [(1, 3), (1, 0), (2, 4), (1, 3), (3, 1), (0, 2), (2, 4)],
)

# Five rooms round room 0, with a key of another kind in each, and a row of rooms on from 0 with
# doors of each kind across it: nearly every room with every set of keys is a state.
MANY_STATES = (
    60,
    [(0, room, None) for room in range(1, 7)]
    + [(room, room + 1, None) for room in range(6, 59)]
    + [(room, room + 5, room % 5) for room in range(20, 51)],
    [(room, room - 1) for room in range(1, 6)] + [(5, 4)] * 55,
)

# From each fourth room to the next one by way of any of three: 3 ** 14 walks of the same length.
MANY_WALKS = (
    60,
    [(at, at + by, None) for at in range(0, 56, 4) for by in (3, 1, 2)]
    + [(at + by, at + 4, None) for at in range(0, 56, 4) for by in (2, 3, 1)],
    [(at, at % 5) for at in range(60)],
)


def ring():
    """Give a RING of one's own."""
    return deepcopy(RING)


def outcome(function, *arguments):
    """Give what the function answers, or the very class of its refusal."""
    try:
        return function(*arguments)
    except MazeError as refusal:
        return type(refusal)


def outcome_unchanged(case, function, *arguments):
    """Give the outcome, and fail the case if an argument is changed by the call."""
    ahead = deepcopy(arguments)
    answer = outcome(function, *arguments)
    case.assertEqual(arguments, ahead)
    return answer
