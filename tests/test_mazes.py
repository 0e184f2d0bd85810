"""What a maze is: checked, keys_in and taken."""

import unittest
from copy import deepcopy

from mazeguide.errors import MazeError, NoKey, NoRoom, TooMany
from mazeguide.mazes import checked, keys_in, taken
from tests.support import FAR_BELOW, HUGE, outcome_unchanged, ring

DOOR = (0, 0, None)
KEY = (0, 0)


class CheckedTakes(unittest.TestCase):
    def takes(self, rooms, doors, keys):
        maze = (rooms, doors, keys)
        ahead = deepcopy(maze)
        answer = checked(maze)
        self.assertEqual(answer, ahead)
        self.assertEqual(maze, ahead)
        self.assertIsInstance(answer, tuple)
        self.assertIs(answer[1], doors)
        self.assertIs(answer[2], keys)

    def test_an_ordinary_maze(self):
        self.takes(*ring())

    def test_the_fewest_and_the_most_rooms(self):
        self.takes(1, [], [])
        self.takes(60, [], [])
        self.takes(60, [(59, 0, None), (0, 59, 4), (59, 59, 0)], [(59, 4)])

    def test_the_fewest_and_the_most_doors(self):
        self.takes(2, [], [KEY])
        self.takes(2, [(0, 1, None)] * 90, [])

    def test_the_fewest_and_the_most_keys(self):
        self.takes(2, [(0, 1, None)], [])
        self.takes(2, [], [(1, 4)] * 60)

    def test_all_at_their_most(self):
        self.takes(60, [(k % 60, 59, k % 5) for k in range(90)], [(k, k % 5) for k in range(60)])

    def test_the_only_room_with_a_door_to_itself(self):
        self.takes(1, [(0, 0, None), (0, 0, 4)], [(0, 0), (0, 4)])

    def test_each_lock_and_each_kind(self):
        self.takes(2, [(0, 1, lock) for lock in [None, 0, 1, 2, 3, 4]], [(1, kind) for kind in range(5)])

    def test_several_doors_between_the_same_rooms(self):
        self.takes(2, [(0, 1, None), (0, 1, None), (1, 0, 2), (0, 1, 2)], [])

    def test_the_same_key_twice(self):
        self.takes(2, [], [(1, 2), (1, 2), (0, 2)])


class CheckedRefuses(unittest.TestCase):
    def refuses(self, error, rooms, doors, keys):
        self.assertEqual(outcome_unchanged(self, checked, (rooms, doors, keys)), error)

    def test_rooms_below_one(self):
        for rooms in (0, -1, -60, FAR_BELOW):
            self.refuses(NoRoom, rooms, [], [])

    def test_rooms_above_sixty(self):
        for rooms in (61, 62, HUGE):
            self.refuses(TooMany, rooms, [], [])

    def test_more_than_ninety_doors(self):
        self.refuses(TooMany, 1, [DOOR] * 91, [])
        self.refuses(TooMany, 60, [DOOR] * 500, [])

    def test_more_than_sixty_keys(self):
        self.refuses(TooMany, 1, [], [KEY] * 61)
        self.refuses(TooMany, 60, [], [KEY] * 500)

    def test_the_end_of_a_door(self):
        for rooms in (1, 2, 60):
            for end in (-1, rooms, rooms + 1, HUGE, FAR_BELOW):
                for lock in (None, 0):
                    self.refuses(NoRoom, rooms, [(end, 0, lock)], [])
                    self.refuses(NoRoom, rooms, [(0, end, lock)], [])
                    self.refuses(NoRoom, rooms, [(end, end, lock)], [])

    def test_the_lock_of_a_door(self):
        for lock in (-1, 5, 6, HUGE, FAR_BELOW):
            self.refuses(NoKey, 2, [(0, 1, lock)], [])
            self.refuses(NoKey, 2, [(0, 0, lock)], [])

    def test_the_room_of_a_key(self):
        for rooms in (1, 2, 60):
            for room in (-1, rooms, rooms + 1, HUGE, FAR_BELOW):
                self.refuses(NoRoom, rooms, [], [(room, 0)])

    def test_the_kind_of_a_key(self):
        for kind in (-1, 5, 6, HUGE, FAR_BELOW):
            self.refuses(NoKey, 2, [], [(1, kind)])

    def test_the_last_of_many(self):
        self.refuses(NoRoom, 2, [DOOR] * 89 + [(0, 2, None)], [KEY] * 60)
        self.refuses(NoKey, 2, [DOOR] * 89 + [(0, 1, 5)], [KEY] * 60)
        self.refuses(NoRoom, 2, [DOOR] * 90, [KEY] * 59 + [(2, 0)])
        self.refuses(NoKey, 2, [DOOR] * 90, [KEY] * 59 + [(1, 5)])

    def test_each_refusal_is_a_value_error_too(self):
        for maze in [(0, [], []), (61, [], []), (1, [(0, 0, 5)], [])]:
            with self.assertRaises(MazeError):
                checked(maze)
            with self.assertRaises(ValueError):
                checked(maze)


class CheckedRefusesInOrder(unittest.TestCase):
    def refuses(self, error, rooms, doors, keys):
        self.assertEqual(outcome_unchanged(self, checked, (rooms, doors, keys)), error)

    def test_rooms_below_one_ahead_of_too_many(self):
        for rooms in (0, -1, FAR_BELOW):
            self.refuses(NoRoom, rooms, [DOOR] * 91, [])
            self.refuses(NoRoom, rooms, [], [KEY] * 61)
            self.refuses(NoRoom, rooms, [DOOR] * 91, [KEY] * 61)

    def test_rooms_below_one_ahead_of_a_lock_and_a_kind(self):
        self.refuses(NoRoom, 0, [(0, 0, 5)], [])
        self.refuses(NoRoom, 0, [], [(0, 5)])

    def test_too_many_rooms_ahead_of_any_door_or_key(self):
        self.refuses(TooMany, 61, [(61, 0, None)], [])
        self.refuses(TooMany, 61, [(0, 0, 5)], [])
        self.refuses(TooMany, 61, [], [(61, 0)])
        self.refuses(TooMany, 61, [], [(0, 5)])

    def test_too_many_doors_ahead_of_any_door_or_key(self):
        self.refuses(TooMany, 1, [(1, 0, None)] + [DOOR] * 90, [])
        self.refuses(TooMany, 1, [(0, 0, 5)] * 91, [])
        self.refuses(TooMany, 1, [DOOR] * 91, [(1, 0)])
        self.refuses(TooMany, 1, [DOOR] * 91, [(0, 5)])

    def test_too_many_keys_ahead_of_any_door_or_key(self):
        self.refuses(TooMany, 1, [(1, 0, None)], [KEY] * 61)
        self.refuses(TooMany, 1, [(0, 0, 5)], [KEY] * 61)
        self.refuses(TooMany, 1, [], [(1, 0)] * 61)
        self.refuses(TooMany, 1, [], [(0, 5)] * 61)

    def test_the_ends_of_a_door_ahead_of_its_lock(self):
        for lock in (-1, 5):
            self.refuses(NoRoom, 2, [(2, 0, lock)], [])
            self.refuses(NoRoom, 2, [(0, 2, lock)], [])
            self.refuses(NoRoom, 2, [(-1, -1, lock)], [])

    def test_door_by_door(self):
        self.refuses(NoKey, 2, [DOOR, (0, 1, 5), (2, 0, None)], [])
        self.refuses(NoRoom, 2, [DOOR, (2, 0, None), (0, 1, 5)], [])

    def test_doors_ahead_of_keys(self):
        self.refuses(NoKey, 2, [DOOR, (0, 1, 5)], [(2, 0)])
        self.refuses(NoRoom, 2, [DOOR, (0, 2, 0)], [(0, 5)])

    def test_the_room_of_a_key_ahead_of_its_kind(self):
        for kind in (-1, 5):
            self.refuses(NoRoom, 2, [], [(2, kind)])
            self.refuses(NoRoom, 2, [], [(-1, kind)])

    def test_key_by_key(self):
        self.refuses(NoKey, 2, [], [KEY, (0, 5), (2, 0)])
        self.refuses(NoRoom, 2, [], [KEY, (2, 0), (0, 5)])


class KeysIn(unittest.TestCase):
    def test_ascending_and_each_once(self):
        maze = ring()
        answers = [outcome_unchanged(self, keys_in, maze, room) for room in range(4)]
        self.assertEqual(answers, [(2,), (0, 3), (4,), (1,)])

    def test_all_kinds_in_one_room(self):
        keys = [(1, kind) for kind in (4, 2, 0, 3, 1, 2, 4)]
        self.assertEqual(keys_in((2, [], keys), 1), (0, 1, 2, 3, 4))

    def test_no_key_there(self):
        self.assertEqual(keys_in((2, [], []), 0), ())
        self.assertEqual(keys_in((2, [], [(1, 0)] * 60), 0), ())
        self.assertEqual(keys_in((2, [], [(1, 0)] * 60), 1), (0,))

    def test_the_last_of_sixty_rooms(self):
        self.assertEqual(keys_in((60, [], [(59, 4), (0, 1)]), 59), (4,))

    def test_a_room_that_there_is_not(self):
        for rooms in (1, 60):
            for room in (-1, rooms, rooms + 1, HUGE, FAR_BELOW):
                self.assertEqual(outcome_unchanged(self, keys_in, (rooms, [], [KEY]), room), NoRoom)

    def test_the_answer_is_that_of_the_maze_as_it_is_now(self):
        maze = (1, [], [])
        self.assertEqual(keys_in(maze, 0), ())
        maze[2].append((0, 3))
        self.assertEqual(keys_in(maze, 0), (3,))


class Taken(unittest.TestCase):
    def test_the_keys_of_the_room_beside_those_in_hand(self):
        maze = ring()
        self.assertEqual(outcome_unchanged(self, taken, maze, 1, ()), (0, 3))
        self.assertEqual(outcome_unchanged(self, taken, maze, 1, (1, 2, 4)), (0, 1, 2, 3, 4))
        self.assertEqual(outcome_unchanged(self, taken, maze, 2, (0, 3)), (0, 3, 4))
        self.assertEqual(outcome_unchanged(self, taken, maze, 0, (4,)), (2, 4))

    def test_a_kind_that_is_in_hand_stands_once(self):
        self.assertEqual(taken(ring(), 1, (0, 3)), (0, 3))
        self.assertEqual(taken(ring(), 1, (3, 4)), (0, 3, 4))

    def test_no_key_there(self):
        self.assertEqual(taken((1, [], []), 0, ()), ())
        self.assertEqual(taken((1, [], []), 0, (1, 3)), (1, 3))

    def test_a_room_that_there_is_not(self):
        for room in (-1, 4, HUGE, FAR_BELOW):
            for held in ((), (0, 1, 2, 3, 4)):
                self.assertEqual(outcome_unchanged(self, taken, ring(), room, held), NoRoom)


if __name__ == "__main__":
    unittest.main()
