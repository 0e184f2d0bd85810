"""What the document tells, worked out by other ways than the program's, and mazes to compare by."""

from itertools import combinations_with_replacement, product


def small_mazes():
    """All mazes of three rooms with two doors of two kinds of locks, and some keys."""
    all_doors = list(product(range(3), range(3), (None, 0, 1)))
    for doors in combinations_with_replacement(all_doors, 2):
        for keys in ([], [(0, 0)], [(1, 1), (0, 0), (1, 1)]):
            yield (3, list(doors), keys)


def mixed_mazes(many, most_rooms, most_doors, most_keys):
    """So many mazes, each time the same ones, with about as many doors and keys as it takes."""
    drawn = 1

    def below(bound):
        nonlocal drawn
        drawn = (drawn * 6364136223846793005 + 1442695040888963407) % 2 ** 64
        return (drawn >> 33) % bound

    for _ in range(many):
        rooms = 1 + below(most_rooms)
        locks = (None, None, 0, 1, 2, 3, 4)
        doors = [(below(rooms), below(rooms), locks[below(7)]) for _ in range(below(most_doors + 1))]
        keys = [(below(rooms), below(5)) for _ in range(below(most_keys + 1))]
        yield (rooms, doors, keys)


def lying(maze, rooms):
    """The kinds of the keys that lie in the rooms."""
    return {kind for room, kind in maze[2] if room in rooms}


def told_steps(maze, state):
    """The set of the states to which one step leads."""
    room, held = state
    there = set()
    for one, other, lock in maze[1]:
        if lock is None or lock in held:
            there |= {other} if one == room else set()
            there |= {one} if other == room else set()
    return {(end, tuple(sorted(lying(maze, [end]) | set(held)))) for end in there}


def told_layers(maze, start):
    """The layers, from the sets of the states to which just so many steps lead."""
    ends = {(start, tuple(sorted(lying(maze, [start]))))}
    ahead = set()
    layers = []
    while ends - ahead:
        layers.append(sorted(ends - ahead))
        ahead |= ends
        ends = {there for state in ends for there in told_steps(maze, state)}
    return layers


def told_rooms(maze, start):
    """The set of the rooms in which the layers have a state."""
    return {room for layer in told_layers(maze, start) for room, _ in layer}


def told_walk(maze, start, goal):
    """The least of the shortest walks, picked forwards by how far off the goal each state is.

    None where no walk leads there.
    """
    layers = told_layers(maze, start)
    states = [state for layer in layers for state in layer]
    behind = {state: told_steps(maze, state) for state in states}
    far = {state: 0 for state in states if state[0] == goal}
    for doors in range(1, len(states)):
        for state in states:
            if state not in far and any(far.get(there) == doors - 1 for there in behind[state]):
                far[state] = doors
    at = layers[0][0]
    if at not in far:
        return None
    walk = [start]
    while far[at] > 0:
        at = min(there for there in behind[at] if far.get(there) == far[at] - 1)
        walk.append(at[0])
    return walk
