"""The guide: the rooms that can be come to, and the shortest walk."""

from mazeguide.mazes import keys_among, need_room, taken
from mazeguide.walks import opens, steps


def come(maze, start):
    """Give the rooms that can be come to, in the order in which the doors put them behind."""
    need_room(maze[0], start)
    reached = [start]
    ways = ways_out(maze, reached)
    while len(ways) > 0:
        reached.append(ways[0])
        ways = ways_out(maze, reached)
    return reached


def ways_out(maze, reached):
    """Give the other end of each door with just one end reached that opens, in the maze's order."""
    held = keys_among(maze, reached)
    ways = []
    for door in maze[1]:
        outside = [end for end in door[:2] if end not in reached]
        if len(outside) == 1 and opens(door, held):
            ways.append(outside[0])
    return ways


def guide(maze, start, goal):
    """Give the least of the shortest walks to the goal, or where the doors are shut."""
    reached = come(maze, start)
    need_room(maze[0], goal)
    if goal in reached:
        return ("walk", least_walk(maze, start, goal))
    return ("shut", reached, keys_among(maze, reached))


def least_walk(maze, start, goal):
    """Give the least of the shortest walks to a goal that can be come to."""
    first = (start, taken(maze, start, ()))
    states = [first]
    walks = {first: [start]}
    at = 0
    # The states stand in the order of their walks, shorter ones first: whichever state
    # leads to another one first gives it its least walk, and the first at the goal is the answer.
    while states[at][0] != goal:
        room, held = states[at]
        for state in sorted(steps(maze, room, held)):
            if state not in walks:
                walks[state] = walks[states[at]] + [state[0]]
                states.append(state)
        at += 1
    return walks[states[at]]
