"""What a maze is, and the keys that lie in its rooms."""

from mazeguide.errors import NoKey, NoRoom, TooMany

MOST_ROOMS = 60
MOST_DOORS = 90
MOST_KEYS = 60
KINDS = 5

# No message names a number that was handed in: Python refuses to write one of very many figures.


def checked(maze):
    """Give back the maze, or refuse it by the first thing that is wrong with it."""
    rooms, doors, keys = maze
    need_size(rooms, doors, keys)
    for door in doors:
        need_door(rooms, door)
    for key in keys:
        need_key(rooms, key)
    return maze


def need_size(rooms, doors, keys):
    """Refuse too few rooms, then too many rooms, doors or keys."""
    if rooms < 1:
        raise NoRoom("a maze has at least one room")
    if rooms > MOST_ROOMS:
        raise TooMany(f"a maze has at most {MOST_ROOMS} rooms")
    if len(doors) > MOST_DOORS:
        raise TooMany(f"a maze has at most {MOST_DOORS} doors")
    if len(keys) > MOST_KEYS:
        raise TooMany(f"a maze has at most {MOST_KEYS} keys")


def need_door(rooms, door):
    """Refuse a door with an end that is no room, then with a lock that is no kind."""
    one, other, lock = door
    need_room(rooms, one)
    need_room(rooms, other)
    if lock is not None:
        need_kind(lock)


def need_key(rooms, key):
    """Refuse a key in a room that there is not, then of a kind that there is not."""
    room, kind = key
    need_room(rooms, room)
    need_kind(kind)


def need_room(rooms, room):
    """Refuse a room that is none of so many rooms."""
    if room < 0 or room >= rooms:
        raise NoRoom("there is no such room")


def need_kind(kind):
    """Refuse a kind of key that there is not."""
    if kind < 0 or kind >= KINDS:
        raise NoKey("there is no such kind of key")


def keys_in(maze, room):
    """Give the kinds of the keys that lie in the room, ascending, each once."""
    need_room(maze[0], room)
    return keys_among(maze, [room])


def keys_among(maze, rooms):
    """Give the kinds of the keys that lie in any of the rooms, ascending, each once."""
    return tuple(sorted({kind for room, kind in maze[2] if room in rooms}))


def taken(maze, room, held):
    """Give the keys in hand once the room is entered with held in hand."""
    return tuple(sorted(set(held + keys_in(maze, room))))
