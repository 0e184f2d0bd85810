"""The layers: which states so many steps lead to, and no fewer."""

from mazeguide.mazes import taken
from mazeguide.walks import steps


def layers(maze, start):
    """Give the layers of states from the start on, each one ascending."""
    layer = [(start, taken(maze, start, ()))]
    found = []
    seen = set()
    while len(layer) > 0:
        found.append(layer)
        for state in layer:
            seen.add(state)
        behind = [state for room, held in layer for state in steps(maze, room, held)]
        layer = sorted({state for state in behind if state not in seen})
    return found


def nearest(maze, start):
    """Give, for each room, the place of the first layer with a state of it, or None."""
    places = [None] * maze[0]
    for place, layer in enumerate(layers(maze, start)):
        for room, _ in layer:
            if places[room] is None:
                places[room] = place
    return places
