"""Going through doors: opens, steps and walked."""

import unittest
from itertools import product

from mazeguide.errors import NoDoor, NoRoom, Shut
from mazeguide.walks import opens, steps, walked
from tests.support import FAR_BELOW, HUGE, outcome, outcome_unchanged, ring
from tests.told import small_mazes

ALL = (0, 1, 2, 3, 4)


class Opens(unittest.TestCase):
    def test_no_lock_opens_with_any_keys(self):
        for held in ((), (0,), ALL):
            self.assertIs(outcome_unchanged(self, opens, (0, 1, None), held), True)

    def test_a_lock_opens_with_its_kind_alone(self):
        for lock in range(5):
            door = (0, 1, lock)
            others = tuple(kind for kind in ALL if kind != lock)
            self.assertIs(opens(door, (lock,)), True)
            self.assertIs(opens(door, ALL), True)
            self.assertIs(opens(door, others), False)
            self.assertIs(opens(door, ()), False)

    def test_the_lock_of_kind_nought_is_a_lock(self):
        self.assertIs(opens((0, 0, 0), ()), False)
        self.assertIs(opens((0, 0, 0), (0,)), True)
        self.assertIs(opens((0, 0, None), ()), True)


class Steps(unittest.TestCase):
    def test_one_state_for_each_door_that_opens_in_order(self):
        maze = ring()
        self.assertEqual(outcome_unchanged(self, steps, maze, 0, (2,)), [(1, (0, 2, 3))])
        self.assertEqual(
            outcome_unchanged(self, steps, maze, 1, (0, 2, 3)),
            [(0, (0, 2, 3)), (2, (0, 2, 3, 4)), (2, (0, 2, 3, 4))],
        )
        self.assertEqual(
            outcome_unchanged(self, steps, maze, 2, (0, 3, 4)),
            [(1, (0, 3, 4)), (1, (0, 3, 4)), (3, (0, 1, 3, 4)), (2, (0, 3, 4))],
        )
        self.assertEqual(
            outcome_unchanged(self, steps, maze, 3, (1, 2)),
            [(0, (1, 2)), (3, (1, 2))],
        )

    def test_a_door_is_gone_through_both_ways(self):
        maze = (3, [(0, 2, None)], [])
        self.assertEqual(steps(maze, 0, ()), [(2, ())])
        self.assertEqual(steps(maze, 2, ()), [(0, ())])
        self.assertEqual(steps(maze, 1, ()), [])

    def test_a_door_to_the_room_itself_counts_once(self):
        self.assertEqual(steps((1, [(0, 0, None)], [(0, 2)]), 0, (2,)), [(0, (2,))])
        self.assertEqual(steps((1, [(0, 0, 2)] * 3, [(0, 2)]), 0, (2,)), [(0, (2,))] * 3)
        self.assertEqual(steps((1, [(0, 0, 1)], [(0, 2)]), 0, (2,)), [])

    def test_each_of_several_doors_between_the_same_rooms_counts(self):
        maze = (2, [(0, 1, None), (1, 0, 0), (0, 1, 4), (0, 1, None)], [(1, 1)])
        self.assertEqual(steps(maze, 0, ()), [(1, (1,)), (1, (1,))])
        self.assertEqual(steps(maze, 0, (4,)), [(1, (1, 4))] * 3)
        self.assertEqual(steps(maze, 0, (0, 4)), [(1, (0, 1, 4))] * 4)

    def test_the_order_is_that_of_the_doors_and_not_of_the_rooms(self):
        maze = (4, [(0, 3, None), (1, 0, None), (0, 0, None), (2, 0, None)], [])
        self.assertEqual(steps(maze, 0, ()), [(3, ()), (1, ()), (0, ()), (2, ())])

    def test_the_keys_behind_a_door_do_not_open_it(self):
        self.assertEqual(steps((2, [(0, 1, 0)], [(1, 0)]), 0, ()), [])

    def test_the_keys_behind_one_door_do_not_open_the_next(self):
        self.assertEqual(steps((3, [(0, 1, None), (0, 2, 0)], [(1, 0)]), 0, ()), [(1, (0,))])

    def test_the_most_doors(self):
        maze = (60, [(59, k % 60, None) for k in range(90)], [])
        self.assertEqual(steps(maze, 59, ()), [(k % 60, ()) for k in range(90)])

    def test_no_doors(self):
        self.assertEqual(steps((1, [], []), 0, ()), [])

    def test_a_room_that_there_is_not(self):
        for room in (-1, 4, 5, HUGE, FAR_BELOW):
            self.assertEqual(outcome_unchanged(self, steps, ring(), room, ALL), NoRoom)

    def test_the_list_is_the_taker_s_own(self):
        maze = ring()
        first = steps(maze, 1, (0, 2, 3))
        kept = list(first)
        first.append("more")
        first[0] = "else"
        self.assertEqual(maze, ring())
        self.assertEqual(steps(maze, 1, (0, 2, 3)), kept)
        nothing = steps((1, [], []), 0, ())
        nothing.append("more")
        self.assertEqual(steps((1, [], []), 0, ()), [])

    def test_the_answer_is_that_of_the_maze_as_it_is_now(self):
        maze = (2, [], [])
        self.assertEqual(steps(maze, 0, ()), [])
        maze[1].append((0, 1, None))
        maze[2].append((1, 4))
        self.assertEqual(steps(maze, 0, ()), [(1, (4,))])


class Walked(unittest.TestCase):
    def walks(self, maze, walk, expected):
        self.assertEqual(outcome_unchanged(self, walked, maze, walk), expected)

    def test_the_keys_in_hand_behind_the_walk(self):
        self.walks(ring(), [0], (2,))
        self.walks(ring(), [0, 1], (0, 2, 3))
        self.walks(ring(), [0, 1, 2], (0, 2, 3, 4))
        self.walks(ring(), [0, 1, 2, 3], ALL)
        self.walks(ring(), [0, 1, 2, 3, 0, 3, 3, 2, 2, 1], ALL)

    def test_a_walk_of_one_room_needs_no_door(self):
        self.walks((1, [], []), [0], ())
        self.walks((60, [], [(59, 3), (59, 1), (0, 0)]), [59], (1, 3))

    def test_a_door_is_gone_through_both_ways(self):
        self.walks((2, [(0, 1, None)], []), [0, 1, 0, 1], ())
        self.walks((2, [(1, 0, None)], []), [0, 1, 0, 1], ())

    def test_the_keys_of_the_first_room_are_taken_first(self):
        self.walks((2, [(0, 1, 3)], [(0, 3)]), [0, 1], (3,))

    def test_keys_are_taken_on_entering_and_not_ahead(self):
        self.walks((2, [(0, 1, 3)], [(1, 3)]), [0, 1], Shut)
        self.walks((3, [(0, 1, None), (1, 2, 3)], [(2, 3)]), [0, 1, 2], Shut)

    def test_keys_are_kept_and_open_as_often_as_one_likes(self):
        maze = (3, [(0, 1, 2), (1, 2, 2)], [(0, 2)])
        self.walks(maze, [0, 1, 0, 1, 2, 1, 2], (2,))

    def test_one_of_several_doors_that_opens_is_enough(self):
        self.walks((2, [(0, 1, 1), (1, 0, 4), (0, 1, 0)], [(0, 4)]), [0, 1], (4,))
        self.walks((2, [(0, 1, 1), (1, 0, None)], []), [0, 1], ())
        self.walks((2, [(0, 1, 1), (1, 0, 4)], []), [0, 1], Shut)

    def test_the_same_room_again_needs_a_door_to_itself(self):
        self.walks((2, [(0, 0, None)], []), [0, 0, 0], ())
        self.walks((2, [(0, 0, 1)], [(0, 1)]), [0, 0], (1,))
        self.walks((2, [(0, 0, 0)], []), [0, 0], Shut)
        self.walks((2, [(0, 1, None)], []), [0, 0], NoDoor)
        self.walks((2, [(0, 1, None), (1, 1, None)], []), [0, 0], NoDoor)

    def test_a_door_to_itself_leads_nowhere_else(self):
        self.walks((2, [(0, 0, None), (1, 1, None)], []), [0, 1], NoDoor)

    def test_no_rooms(self):
        self.walks(ring(), [], NoRoom)
        self.walks((1, [], []), [], NoRoom)

    def test_a_room_that_there_is_not_anywhere(self):
        for room in (-1, 4, 5, HUGE, FAR_BELOW):
            for walk in ([room], [room, 0], [0, room], [0, 1, room, 1], [0, 1, 2, room]):
                self.walks(ring(), walk, NoRoom)

    def test_no_door_between_neighbours(self):
        self.walks(ring(), [0, 2], NoDoor)
        self.walks(ring(), [0, 1, 3], NoDoor)
        self.walks((60, [], []), [0, 59], NoDoor)

    def test_doors_between_neighbours_and_none_opens(self):
        self.walks(ring(), [0, 3], Shut)
        self.walks(ring(), [2, 1], Shut)
        self.walks((2, [(0, 1, 0)], [(0, 1), (0, 2), (0, 3), (0, 4)]), [0, 1], Shut)

    def test_a_room_that_there_is_not_ahead_of_no_door_and_shut(self):
        for room in (-1, 4, HUGE, FAR_BELOW):
            self.walks(ring(), [0, 2, room], NoRoom)
            self.walks(ring(), [0, 3, room], NoRoom)
            self.walks(ring(), [0, 2, 0, 3, 0, 1, room], NoRoom)

    def test_the_first_two_neighbours_that_can_t_be_walked_count(self):
        self.walks(ring(), [0, 2, 1], NoDoor)
        self.walks(ring(), [0, 3, 1], Shut)
        self.walks(ring(), [0, 1, 1, 0, 3], NoDoor)
        self.walks(ring(), [0, 1, 0, 3, 1, 1], Shut)

    def test_a_walk_of_a_hundred_and_twenty_rooms(self):
        maze = (60, [(k, k + 1, k % 5) for k in range(59)], [(0, kind) for kind in ALL])
        there_and_back = list(range(60)) + list(reversed(range(60)))
        self.walks(maze, there_and_back, NoDoor)
        maze[1].append((59, 59, None))
        self.walks(maze, there_and_back, ALL)

    def test_the_answer_is_that_of_the_maze_as_it_is_now(self):
        maze = (2, [], [])
        self.walks(maze, [0, 1], NoDoor)
        maze[1].append((0, 1, 4))
        self.walks(maze, [0, 1], Shut)
        maze[2].append((0, 4))
        self.walks(maze, [0, 1], (4,))


def told_walked(maze, walk):
    """What point 10 tells of walked, word by word, by another way than the program's."""
    rooms, doors, keys = maze
    if not walk or not set(walk) <= set(range(rooms)):
        return NoRoom
    held = {kind for room, kind in keys if room == walk[0]}
    for at in range(1, len(walk)):
        ends = sorted(walk[at - 1:at + 1])
        locks = {lock for one, other, lock in doors if sorted([one, other]) == ends}
        if not locks:
            return NoDoor
        if not locks & (held | {None}):
            return Shut
        held |= {kind for room, kind in keys if room == walk[at]}
    return tuple(sorted(held))


class AllSmallMazes(unittest.TestCase):
    def test_walked_is_as_told(self):
        walks = [list(walk) for many in range(4) for walk in product(range(3), repeat=many)]
        for maze in small_mazes():
            for walk in walks:
                self.assertEqual(outcome(walked, maze, walk), told_walked(maze, walk), (maze, walk))

    def test_steps_lead_just_where_a_walk_goes_on(self):
        for maze in small_mazes():
            for walk in ([0], [1], [0, 1], [2, 1]):
                held = outcome(walked, maze, walk)
                if not isinstance(held, tuple):
                    continue
                going_on = [(room, outcome(walked, maze, walk + [room])) for room in range(3)]
                expected = {state for state in going_on if isinstance(state[1], tuple)}
                self.assertEqual(set(steps(maze, walk[-1], held)), expected, (maze, walk))


if __name__ == "__main__":
    unittest.main()
