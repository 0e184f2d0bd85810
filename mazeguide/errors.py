"""The refusals."""


class MazeError(ValueError):
    """Any refusal."""


class NoMaze(MazeError):
    """A text that writes no maze."""


class NoRoom(MazeError):
    """A room that there is not."""


class NoKey(MazeError):
    """A kind of key that there is not."""


class TooMany(MazeError):
    """More rooms, doors or keys than a maze may have."""


class NoDoor(MazeError):
    """Two rooms of a walk without a door between them."""


class Shut(MazeError):
    """Two rooms of a walk with doors between them of which none opens."""
