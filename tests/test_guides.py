"""The guide: come and guide."""

import unittest

from mazeguide.errors import NoRoom
from mazeguide.guides import come, guide
from mazeguide.walks import opens, walked
from tests.support import FAR_BELOW, HUGE, MANY_STATES, MANY_WALKS, outcome, outcome_unchanged, ring
from tests.told import lying, mixed_mazes, small_mazes, told_rooms, told_walk

ALL = (0, 1, 2, 3, 4)

# A corridor of 54 rooms with the start in its middle. Each kind but the first lies at its ends in
# turn, behind a door that the kind ahead opens: five times the corridor's length, and more.
BACK_AND_FORTH = (
    60,
    [(room, room + 1, None) for room in range(53)]
    + [(0, 54, 0), (53, 55, 1), (54, 56, 2), (55, 57, 3), (56, 58, 4)],
    [(53, 0), (54, 1), (55, 2), (56, 3), (57, 4)],
)


def one_end_in(door, rooms):
    """Tell whether just one end of the door is among the rooms."""
    return (door[0] in rooms) != (door[1] in rooms)


def first_room_behind(maze, rooms):
    """The room that the first door of point 13 puts behind these, or None."""
    held = lying(maze, rooms)
    for one, other, lock in maze[1]:
        if one_end_in((one, other), rooms) and (lock is None or lock in held):
            return other if one in rooms else one
    return None


class Come(unittest.TestCase):
    def gives(self, maze, start, expected):
        self.assertEqual(outcome_unchanged(self, come, maze, start), expected)

    def test_the_rooms_of_a_ring_with_keys(self):
        self.gives(ring(), 0, [0, 1, 2, 3])
        self.gives(ring(), 1, [1, 0, 2, 3])
        self.gives(ring(), 2, [2, 3, 0, 1])
        self.gives(ring(), 3, [3, 0, 1, 2])

    def test_one_room_alone(self):
        self.gives((1, [], []), 0, [0])
        self.gives((1, [(0, 0, None), (0, 0, 3)], [(0, 3)]), 0, [0])
        self.gives((60, [], []), 59, [59])
        self.gives((2, [(0, 1, 0), (1, 0, 4), (1, 1, None)], [(0, 1), (1, 0), (1, 4)]), 0, [0])

    def test_a_door_that_is_shut_at_first_is_gone_through_in_its_turn(self):
        self.gives((4, [(0, 1, 3), (0, 2, None), (0, 3, None)], [(2, 3)]), 0, [0, 2, 1, 3])
        self.gives((4, [(0, 1, 3), (0, 2, None), (0, 3, None)], [(3, 3)]), 0, [0, 2, 3, 1])

    def test_it_is_begun_again_from_the_first_door_after_each(self):
        doors = [(3, 4, None), (2, 3, None), (1, 2, None), (0, 1, None), (0, 5, None)]
        self.gives((6, doors, []), 0, [0, 1, 2, 3, 4, 5])
        self.gives((6, list(reversed(doors)), []), 0, [0, 5, 1, 2, 3, 4])

    def test_the_order_is_that_of_the_doors_and_not_of_the_rooms(self):
        self.gives((4, [(0, 3, None), (2, 0, None), (0, 1, None)], []), 0, [0, 3, 2, 1])
        self.gives((4, [(0, 2, None), (1, 2, None), (0, 3, None), (0, 1, None)], []), 0, [0, 2, 1, 3])

    def test_the_order_is_not_that_of_the_fewest_doors(self):
        self.gives((4, [(0, 1, None), (1, 2, None), (0, 3, None)], []), 0, [0, 1, 2, 3])

    def test_a_door_is_gone_through_both_ways(self):
        self.gives((3, [(0, 1, None), (1, 2, None)], []), 2, [2, 1, 0])
        self.gives((3, [(1, 0, None), (2, 1, None)], []), 0, [0, 1, 2])

    def test_a_door_with_both_ends_in_the_list_or_none_puts_nothing_behind(self):
        doors = [(2, 2, None), (2, 3, None), (0, 1, None), (1, 0, None), (0, 0, None), (1, 1, None)]
        self.gives((4, doors, []), 0, [0, 1])

    def test_the_keys_of_any_room_of_the_list_open(self):
        doors = [(0, 1, None), (0, 2, None), (2, 3, 4), (3, 4, 0), (1, 5, 1)]
        self.gives((6, doors, [(0, 0), (1, 4), (3, 1)]), 0, [0, 1, 2, 3, 4, 5])

    def test_the_keys_of_other_rooms_do_not_open(self):
        self.gives((3, [(0, 1, None), (1, 2, 0)], [(2, 0)]), 0, [0, 1])

    def test_any_of_several_doors_between_the_same_rooms(self):
        self.gives((2, [(0, 1, 4), (1, 0, None)], []), 0, [0, 1])
        self.gives((2, [(0, 1, 4), (1, 0, 0)], [(0, 0)]), 0, [0, 1])
        self.gives((2, [(0, 1, 4), (1, 0, 0)], [(0, 3)]), 0, [0])

    def test_a_row_of_sixty_rooms(self):
        doors = [(room, room + 1, None) for room in range(59)]
        self.gives((60, doors, []), 0, list(range(60)))
        self.gives((60, doors, []), 59, list(reversed(range(60))))

    def test_a_room_that_there_is_not(self):
        for room in (-1, 4, 5, HUGE, FAR_BELOW):
            self.gives(ring(), room, NoRoom)
        self.gives((1, [], []), 1, NoRoom)
        self.gives((60, [], []), 60, NoRoom)

    def test_each_next_room_is_as_told_of_all_kinds_of_mazes(self):
        for maze in [*small_mazes(), *mixed_mazes(300, 9, 16, 9), *mixed_mazes(20, 60, 90, 60)]:
            for start in range(maze[0]):
                rooms = come(maze, start)
                self.assertEqual(rooms[0], start)
                for many in range(1, len(rooms)):
                    self.assertEqual(rooms[many], first_room_behind(maze, rooms[:many]), (maze, start))
                self.assertIsNone(first_room_behind(maze, rooms), (maze, start))

    def test_they_are_the_rooms_of_the_layers(self):
        for maze in [*mixed_mazes(100, 9, 16, 9), MANY_STATES, BACK_AND_FORTH]:
            rooms = come(maze, 0)
            self.assertEqual(len(set(rooms)), len(rooms))
            self.assertEqual(set(rooms), told_rooms(maze, 0))

    def test_the_list_is_the_taker_s_own(self):
        maze = ring()
        come(maze, 0).clear()
        self.assertEqual(maze, ring())
        self.assertEqual(come(maze, 0), [0, 1, 2, 3])


class GuideWalks(unittest.TestCase):
    def gives(self, maze, start, goal, rooms):
        self.assertEqual(outcome_unchanged(self, guide, maze, start, goal), ("walk", rooms))

    def test_the_walks_of_a_ring_with_keys(self):
        self.gives(ring(), 0, 1, [0, 1])
        self.gives(ring(), 0, 2, [0, 1, 2])
        self.gives(ring(), 0, 3, [0, 1, 2, 3])
        self.gives(ring(), 3, 2, [3, 0, 1, 2])
        self.gives(ring(), 2, 1, [2, 3, 0, 1])

    def test_from_a_room_to_itself(self):
        for room in range(4):
            self.gives(ring(), room, room, [room])
        self.gives((1, [], []), 0, 0, [0])
        self.gives((1, [(0, 0, None)], [(0, 0)]), 0, 0, [0])
        self.gives((60, [(59, 0, 0)], []), 59, 59, [59])

    def test_the_fewest_doors_ahead_of_the_least_list(self):
        self.gives((5, [(0, 1, None), (1, 2, None), (2, 3, None), (0, 4, None), (4, 3, None)], []), 0, 3, [0, 4, 3])
        self.gives((3, [(0, 1, None), (1, 2, None), (0, 2, None)], []), 0, 2, [0, 2])

    def test_the_least_of_several_shortest_walks(self):
        doors = [(0, 3, None), (3, 4, None), (0, 2, None), (2, 4, None), (0, 1, None), (1, 4, None)]
        self.gives((5, doors, []), 0, 4, [0, 1, 4])
        self.gives((5, doors[:4], []), 0, 4, [0, 2, 4])
        self.gives((5, list(reversed(doors)), []), 0, 4, [0, 1, 4])
        self.gives((5, list(reversed(doors)), []), 4, 0, [4, 1, 0])

    def test_the_first_rooms_count_ahead_of_the_next_ones(self):
        doors = [(0, 1, None), (0, 2, None), (1, 4, None), (2, 3, None), (3, 5, None), (4, 5, None)]
        self.gives((6, doors, []), 0, 5, [0, 1, 4, 5])
        self.gives((6, doors, []), 5, 0, [5, 3, 2, 0])
        doors = [(5, 1, None), (5, 2, None), (1, 4, None), (1, 3, None), (2, 3, None), (3, 0, None), (4, 0, None)]
        self.gives((6, doors, []), 5, 0, [5, 1, 3, 0])

    def test_the_least_of_walks_with_other_keys(self):
        doors = [(0, 1, None), (0, 2, None), (1, 3, None), (2, 3, None), (3, 4, 4), (3, 5, None), (5, 4, None)]
        self.gives((6, doors, []), 0, 4, [0, 1, 3, 5, 4])
        self.gives((6, doors, [(2, 4)]), 0, 4, [0, 2, 3, 4])
        self.gives((6, doors, [(2, 4), (1, 4)]), 0, 4, [0, 1, 3, 4])
        self.gives((6, doors, [(2, 4), (5, 4)]), 0, 4, [0, 2, 3, 4])

    def test_a_key_is_fetched_and_the_way_goes_back(self):
        self.gives((4, [(0, 1, None), (1, 2, None), (0, 3, 2)], [(2, 2)]), 0, 3, [0, 1, 2, 1, 0, 3])
        self.gives((3, [(0, 1, None), (1, 2, 0)], [(0, 0)]), 1, 2, [1, 0, 1, 2])

    def test_two_keys_are_fetched_one_with_the_other(self):
        doors = [(0, 1, None), (0, 2, 0), (0, 3, 1)]
        self.gives((4, doors, [(1, 0), (2, 1)]), 0, 3, [0, 1, 0, 2, 0, 3])

    def test_the_nearer_of_two_keys_and_the_lesser_of_two_as_near(self):
        doors = [(0, 3, None), (0, 2, None), (2, 1, None), (0, 4, 4)]
        self.gives((5, doors, [(3, 4), (1, 4)]), 0, 4, [0, 3, 0, 4])
        self.gives((5, doors, [(3, 4), (2, 4)]), 0, 4, [0, 2, 0, 4])

    def test_a_way_about_that_is_shorter_than_fetching_a_key(self):
        doors = [(0, 1, None), (1, 2, None), (0, 3, 2), (0, 4, None), (4, 5, None), (5, 3, None)]
        self.gives((6, doors, [(2, 2)]), 0, 3, [0, 4, 5, 3])

    def test_no_key_is_fetched_that_is_not_needed(self):
        self.gives((3, [(0, 1, None), (0, 2, None)], [(1, 0), (1, 1)]), 0, 2, [0, 2])

    def test_doors_without_lock_beside_locked_ones(self):
        self.gives((2, [(0, 1, 4), (0, 1, None), (1, 0, 3)], []), 0, 1, [0, 1])
        self.gives((3, [(0, 1, 4), (1, 0, None), (1, 2, 0), (2, 1, 2)], [(1, 2)]), 0, 2, [0, 1, 2])
        self.gives((3, [(0, 1, 0), (0, 1, 0), (1, 2, None), (2, 0, None)], []), 0, 1, [0, 2, 1])

    def test_a_door_from_a_room_to_itself_is_no_way_on(self):
        doors = [(0, 0, None), (0, 1, None), (1, 1, None), (2, 2, None), (1, 2, None)]
        self.gives((3, doors, [(0, 1)]), 0, 2, [0, 1, 2])

    def test_back_and_forth_with_all_five_kinds(self):
        there = list(range(54))
        back = list(reversed(range(53)))
        rooms = there[26:] + back + [54] + there + [55, 53] + back + [54, 56, 54] + there + [55, 57, 55, 53]
        self.gives(BACK_AND_FORTH, 26, 58, rooms + back + [54, 56, 58])

    def test_a_row_of_sixty_rooms(self):
        doors = [(room, room + 1, None) for room in range(59)]
        self.gives((60, doors, []), 0, 59, list(range(60)))
        self.gives((60, doors, []), 59, 0, list(reversed(range(60))))

    def test_very_many_walks_of_the_same_length(self):
        ascending = [room for at in range(0, 56, 4) for room in (at, at + 1)] + [56]
        self.gives(MANY_WALKS, 0, 56, ascending)
        descending = [room for at in range(56, 0, -4) for room in (at, at - 3)] + [0]
        self.gives(MANY_WALKS, 56, 0, descending)

    def test_a_grid(self):
        along = [(8 * row + at, 8 * row + at + 1, None) for row in range(6) for at in range(7)]
        down = [(8 * row + at, 8 * row + at + 8, None) for row in range(5) for at in range(8)]
        self.gives((48, down + along, []), 0, 47, [*range(8), 15, 23, 31, 39, 47])
        self.gives((48, down + along, []), 47, 0, [47, 39, 31, 23, 15, *reversed(range(8))])

    def test_very_many_states(self):
        for start, goal in [(0, 59), (59, 5), (3, 58), (40, 1)]:
            self.gives(MANY_STATES, start, goal, told_walk(MANY_STATES, start, goal))


class GuideShut(unittest.TestCase):
    def gives(self, maze, start, goal, rooms, held):
        self.assertEqual(outcome_unchanged(self, guide, maze, start, goal), ("shut", rooms, held))

    def test_no_door_at_all(self):
        self.gives((2, [], []), 0, 1, [0], ())
        self.gives((60, [(3, 4, None)], [(59, 4), (3, 1)]), 59, 3, [59], (4,))

    def test_each_door_out_is_shut(self):
        self.gives((3, [(0, 1, None), (1, 2, 3)], [(0, 0), (1, 4)]), 0, 2, [0, 1], (0, 4))
        self.gives((2, [(0, 1, 0)], []), 0, 1, [0], ())
        self.gives((2, [(0, 1, 0)], [(1, 0)]), 0, 1, [0], ())
        self.gives((2, [(0, 1, 0), (1, 0, 4)], [(0, 1), (0, 2), (0, 3)]), 0, 1, [0], (1, 2, 3))

    def test_the_keys_ascend_and_stand_once(self):
        keys = [(0, 4), (1, 0), (0, 2), (1, 4), (0, 4), (2, 1)]
        self.gives((3, [(0, 1, None), (1, 2, 3)], keys), 0, 2, [0, 1], (0, 2, 4))

    def test_the_rooms_stand_in_the_order_of_the_doors(self):
        doors = [(0, 1, 3), (0, 4, None), (2, 0, None), (4, 3, None), (3, 5, 0)]
        self.gives((6, doors, [(2, 3), (5, 0)]), 0, 5, [0, 4, 2, 1, 3], (3,))
        self.gives((6, doors, [(2, 3), (5, 0)]), 3, 5, [3, 4, 0, 2, 1], (3,))

    def test_other_rooms_beyond_are_not_told(self):
        doors = [(0, 1, None), (2, 3, None), (1, 2, 0), (3, 4, None)]
        self.gives((5, doors, [(2, 0), (3, 0), (1, 1)]), 0, 4, [0, 1], (1,))
        self.gives((5, doors, [(2, 0), (3, 0), (1, 1)]), 0, 2, [0, 1], (1,))

    def test_the_way_back_may_be_open(self):
        maze = (2, [(0, 1, 0)], [(1, 0)])
        self.assertEqual(guide(maze, 1, 0), ("walk", [1, 0]))
        self.gives(maze, 0, 1, [0], ())


class GuideRefuses(unittest.TestCase):
    def test_a_start_or_a_goal_that_there_is_not(self):
        for room in (-1, 4, 5, HUGE, FAR_BELOW):
            for start, goal in [(room, 0), (0, room), (room, room), (3, room), (room, 3)]:
                self.assertEqual(outcome_unchanged(self, guide, ring(), start, goal), NoRoom)

    def test_in_the_smallest_and_the_greatest_maze(self):
        for rooms in (1, 60):
            self.assertEqual(outcome(guide, (rooms, [], []), rooms, 0), NoRoom)
            self.assertEqual(outcome(guide, (rooms, [], []), 0, rooms), NoRoom)


class GuideAnswers(unittest.TestCase):
    def test_the_lists_are_the_taker_s_own(self):
        for goal in (1, 2):
            maze = (3, [(0, 1, None), (1, 2, 4)], [(1, 0)])
            answer = guide(maze, 0, goal)
            kept = (answer[0], list(answer[1]), *answer[2:])
            answer[1].clear()
            self.assertEqual(maze, (3, [(0, 1, None), (1, 2, 4)], [(1, 0)]))
            self.assertEqual(guide(maze, 0, goal), kept)

    def test_the_answer_is_that_of_the_maze_as_it_is_now(self):
        maze = (2, [(0, 1, 3)], [])
        self.assertEqual(guide(maze, 0, 1), ("shut", [0], ()))
        maze[2].append((0, 3))
        self.assertEqual(guide(maze, 0, 1), ("walk", [0, 1]))

    def answers_as_told(self, maze, start, goal):
        answer = guide(maze, start, goal)
        walk = told_walk(maze, start, goal)
        if walk is not None:
            self.assertEqual(answer, ("walk", walk), (maze, start, goal))
            walked(maze, walk)
            return
        rooms = come(maze, start)
        held = tuple(sorted(lying(maze, rooms)))
        self.assertEqual(answer, ("shut", rooms, held), (maze, start, goal))
        self.assertNotIn(goal, rooms)
        for door in maze[1]:
            self.assertFalse(one_end_in(door, rooms) and opens(door, held), (maze, start, goal))

    def test_they_are_as_told_of_mixed_mazes(self):
        for maze in mixed_mazes(300, 7, 12, 8):
            for start in range(maze[0]):
                for goal in range(maze[0]):
                    self.answers_as_told(maze, start, goal)

    def test_they_are_as_told_of_great_mazes(self):
        for maze in mixed_mazes(12, 60, 90, 30):
            for goal in range(0, maze[0], 5):
                self.answers_as_told(maze, 0, goal)

    def test_no_walk_of_all_is_shorter_or_less(self):
        for maze in small_mazes():
            for start in range(3):
                least = {}
                walks = [[start]]
                for _ in range(6):
                    for walk in walks:
                        least.setdefault(walk[-1], walk)
                    longer = [walk + [room] for walk in walks for room in range(3)]
                    walks = [walk for walk in longer if isinstance(outcome(walked, maze, walk), tuple)]
                for goal in range(3):
                    answer = guide(maze, start, goal)
                    found = answer[1] if answer[0] == "walk" else None
                    self.assertEqual(found, least.get(goal), (maze, start, goal))


if __name__ == "__main__":
    unittest.main()
