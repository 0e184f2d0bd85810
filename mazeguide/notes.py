"""Writing a maze as a text, and reading it back."""

from mazeguide.errors import NoMaze
from mazeguide.mazes import checked

FIGURES = "0123456789"


def written(maze):
    """Give the rows of the maze, parted by line feeds."""
    rooms, doors, keys = maze
    rows = [f"rooms {rooms}"]
    rows.extend([door_row(door) for door in doors])
    rows.extend([key_row(key) for key in keys])
    return "\n".join(rows)


def door_row(door):
    """Give the row of a door."""
    one, other, lock = door
    if lock is None:
        return f"door {one} {other}"
    return f"door {one} {other} by {lock}"


def key_row(key):
    """Give the row of a key."""
    room, kind = key
    return f"key {kind} in {room}"


def read(text):
    """Give the maze that the text writes, or refuse the text."""
    rows = [row.split(" ") for row in text.split("\n")]
    rooms = read_rooms(rows[0])
    doors = []
    keys = []
    for words in rows[1:]:
        read_row(words, doors, keys)
    # Only now, for a row that is none counts ahead of all that is wrong with the maze.
    return checked((rooms, doors, keys))


def read_rooms(words):
    """Give the number of rooms that the first row tells."""
    match words:
        case ["rooms", many]:
            return number(many)
    raise NoMaze("the first row tells no number of rooms")


def read_row(words, doors, keys):
    """Put the door or the key that the row tells behind those ahead of it."""
    match words:
        case ["door", one, other]:
            doors.append((number(one), number(other), None))
        case ["door", one, other, "by", lock]:
            doors.append((number(one), number(other), number(lock)))
        case ["key", kind, "in", room]:
            keys.append((number(room), number(kind)))
        case _:
            raise NoMaze("a row tells neither a door nor a key")


def number(word):
    """Give the number that the word writes in figures."""
    # Python's own tests for figures, and int, take figures of other scripts too.
    if word == "" or not all([sign in FIGURES for sign in word]):
        raise NoMaze("a word is no number in figures")
    if word[0] == "0" and word != "0":
        raise NoMaze("a number has a nought ahead of it")
    return int(word)
