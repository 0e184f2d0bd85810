"""Going through doors: single steps, and whole walks."""

from mazeguide.errors import NoDoor, NoRoom, Shut
from mazeguide.mazes import need_room, taken


def opens(door, held):
    """Tell whether the door opens with the keys in hand."""
    lock = door[2]
    return lock is None or lock in held


def steps(maze, room, held):
    """Give the state behind each door of the room that opens, in the maze's order."""
    rooms, doors, _ = maze
    need_room(rooms, room)
    states = []
    for door in doors:
        if room in (door[0], door[1]) and opens(door, held):
            there = far_end(door, room)
            states.append((there, taken(maze, there, held)))
    return states


def far_end(door, room):
    """Give the room to which a door of this room leads."""
    one, other, _ = door
    return other if one == room else one


def walked(maze, walk):
    """Give the keys in hand behind the walk, or refuse it where it can't be walked."""
    need_walk(maze, walk)
    held = taken(maze, walk[0], ())
    for here, there in zip(walk, walk[1:]):
        need_way(maze, here, there, held)
        held = taken(maze, there, held)
    return held


def need_walk(maze, walk):
    """Refuse a walk without rooms, or with a room that there is not."""
    if len(walk) == 0:
        raise NoRoom("a walk has at least one room")
    for room in walk:
        need_room(maze[0], room)


def need_way(maze, here, there, held):
    """Refuse two neighbours without a door between them that opens."""
    between = [door for door in maze[1] if joins(door, here, there)]
    if len(between) == 0:
        raise NoDoor("there is no door between two rooms of the walk")
    if not any([opens(door, held) for door in between]):
        raise Shut("no door between two rooms of the walk opens")


def joins(door, here, there):
    """Tell whether the door is between the two rooms, either way round."""
    one, other, _ = door
    return (one, other) == (here, there) or (other, one) == (here, there)
