"""The layers of states: layers and nearest."""

import unittest

from mazeguide.errors import NoRoom
from mazeguide.rows import layers, nearest
from tests.support import FAR_BELOW, HUGE, MANY_STATES, outcome_unchanged, ring
from tests.told import mixed_mazes, small_mazes, told_layers

ALL = (0, 1, 2, 3, 4)


class Layers(unittest.TestCase):
    def gives(self, maze, start, expected):
        self.assertEqual(outcome_unchanged(self, layers, maze, start), expected)

    def test_each_step_of_a_ring_with_keys(self):
        self.gives(ring(), 0, [
            [(0, (2,))],
            [(1, (0, 2, 3))],
            [(0, (0, 2, 3)), (2, (0, 2, 3, 4))],
            [(1, (0, 2, 3, 4)), (3, ALL)],
            [(0, ALL), (0, (0, 2, 3, 4)), (2, ALL)],
            [(1, ALL)],
        ])

    def test_the_first_has_the_room_and_its_keys_alone(self):
        for start, held in enumerate([(2,), (0, 3), (4,), (1,)]):
            self.assertEqual(layers(ring(), start)[0], [(start, held)])
        self.assertEqual(layers((1, [], [(0, 3), (0, 1), (0, 3)]), 0), [[(0, (1, 3))]])
        self.assertEqual(layers((1, [], []), 0), [[(0, ())]])

    def test_no_door_leads_on(self):
        self.gives((3, [(1, 2, None)], []), 0, [[(0, ())]])
        self.gives((2, [(0, 1, 0), (1, 0, 4)], [(0, 1), (0, 2), (1, 0)]), 0, [[(0, (1, 2))]])

    def test_the_same_room_with_other_keys_is_another_state(self):
        self.gives((2, [(0, 1, None)], [(1, 4)]), 0, [[(0, ())], [(1, (4,))], [(0, (4,))]])
        self.gives((2, [(0, 1, None)], [(0, 4)]), 0, [[(0, (4,))], [(1, (4,))]])

    def test_a_door_to_the_room_itself_leads_to_no_new_state(self):
        self.gives((1, [(0, 0, None), (0, 0, 2)], [(0, 2)]), 0, [[(0, (2,))]])
        self.gives((2, [(0, 0, None), (0, 1, None), (1, 1, None)], []), 0, [[(0, ())], [(1, ())]])

    def test_a_state_to_which_several_steps_lead_stands_once(self):
        doors = [(0, 1, None), (1, 0, None), (0, 2, None), (1, 3, None), (3, 2, None)]
        self.gives((4, doors, []), 0, [[(0, ())], [(1, ()), (2, ())], [(3, ())]])

    def test_a_state_of_any_layer_ahead_does_not_stand_again(self):
        doors = [(0, 1, None), (1, 2, None), (2, 3, None), (3, 0, None)]
        self.gives((4, doors, []), 0, [[(0, ())], [(1, ()), (3, ())], [(2, ())]])
        doors = [(0, 1, None), (1, 2, None), (2, 0, None)]
        self.gives((3, doors, []), 0, [[(0, ())], [(1, ()), (2, ())]])

    def test_a_layer_ascends_by_rooms_and_then_by_keys(self):
        doors = [(0, 3, None), (0, 2, None), (0, 1, None), (1, 4, None), (2, 4, None), (3, 4, None)]
        keys = [(1, 3), (2, 0), (2, 4), (3, 1)]
        self.assertEqual(layers((5, doors, keys), 0)[1:3], [
            [(1, (3,)), (2, (0, 4)), (3, (1,))],
            [(0, (0, 4)), (0, (1,)), (0, (3,)), (4, (0, 4)), (4, (1,)), (4, (3,))],
        ])

    def test_fewer_keys_ascend_ahead_of_more_that_begin_so(self):
        doors = [(0, 1, None), (0, 2, None), (1, 3, None), (2, 3, None)]
        maze = (4, doors, [(0, 0), (2, 4)])
        self.assertEqual(layers(maze, 0)[2], [(0, (0, 4)), (3, (0,)), (3, (0, 4))])

    def test_a_room_that_there_is_not(self):
        for room in (-1, 4, 5, HUGE, FAR_BELOW):
            self.gives(ring(), room, NoRoom)
        self.gives((1, [], []), 1, NoRoom)
        self.gives((60, [], []), 60, NoRoom)

    def test_they_are_as_told_of_all_small_mazes(self):
        for maze in small_mazes():
            for start in range(3):
                self.assertEqual(layers(maze, start), told_layers(maze, start), (maze, start))

    def test_they_are_as_told_of_mixed_mazes(self):
        for maze in mixed_mazes(120, 8, 14, 9):
            for start in range(maze[0]):
                self.assertEqual(layers(maze, start), told_layers(maze, start), (maze, start))

    def test_very_many_states(self):
        found = outcome_unchanged(self, layers, MANY_STATES, 0)
        self.assertEqual(found, told_layers(MANY_STATES, 0))
        states = [state for layer in found for state in layer]
        self.assertGreater(len(states), 1600)
        self.assertEqual(len(set(states)), len(states))
        self.assertTrue(all(found))
        self.assertEqual(found, [sorted(layer) for layer in found])

    def test_the_lists_are_the_taker_s_own(self):
        maze = ring()
        first = layers(maze, 0)
        kept = [list(layer) for layer in first]
        for layer in first:
            layer.append("more")
        first.clear()
        self.assertEqual(maze, ring())
        self.assertEqual(layers(maze, 0), kept)

    def test_the_answer_is_that_of_the_maze_as_it_is_now(self):
        maze = (2, [], [])
        self.assertEqual(layers(maze, 0), [[(0, ())]])
        maze[1].append((0, 1, None))
        maze[2].append((0, 4))
        self.assertEqual(layers(maze, 0), [[(0, (4,))], [(1, (4,))]])


class Nearest(unittest.TestCase):
    def gives(self, maze, start, expected):
        self.assertEqual(outcome_unchanged(self, nearest, maze, start), expected)

    def test_the_place_of_the_first_layer_with_the_room(self):
        self.gives(ring(), 0, [0, 1, 2, 3])
        self.gives(ring(), 1, [1, 0, 1, 2])
        self.gives(ring(), 2, [2, 3, 0, 1])
        self.gives(ring(), 3, [1, 2, 3, 0])

    def test_the_start_is_at_nought_though_it_is_come_to_again(self):
        self.gives((2, [(0, 1, None)], [(1, 4)]), 0, [0, 1])
        self.gives((2, [(0, 1, None)], [(0, 4)]), 1, [1, 0])
        self.gives((1, [(0, 0, None)], [(0, 0)]), 0, [0])

    def test_none_where_no_layer_has_the_room(self):
        self.gives((4, [(0, 2, None), (2, 3, 1)], [(3, 1)]), 0, [0, None, 1, None])
        self.gives((60, [], []), 59, [None] * 59 + [0])

    def test_a_key_that_must_be_fetched_counts_its_way(self):
        doors = [(0, 1, None), (1, 2, None), (0, 3, 3)]
        self.gives((4, doors, [(2, 3)]), 0, [0, 1, 2, 5])
        self.gives((4, doors, [(0, 3)]), 0, [0, 1, 2, 1])

    def test_a_row_of_sixty_rooms(self):
        self.gives((60, [(room, room + 1, None) for room in range(59)], []), 0, list(range(60)))

    def test_a_room_that_there_is_not(self):
        for room in (-1, 4, 5, HUGE, FAR_BELOW):
            self.gives(ring(), room, NoRoom)
        self.gives((1, [], []), 1, NoRoom)
        self.gives((60, [], []), 60, NoRoom)

    def test_they_are_the_layers_places(self):
        for maze in [*mixed_mazes(120, 8, 14, 9), MANY_STATES]:
            for start in {0, maze[0] - 1}:
                rooms = [[room for room, _ in layer] for layer in told_layers(maze, start)]
                places = [[k for k, layer in enumerate(rooms) if room in layer] for room in range(maze[0])]
                self.assertEqual(nearest(maze, start), [(at or [None])[0] for at in places], (maze, start))

    def test_the_list_is_the_taker_s_own(self):
        maze = ring()
        nearest(maze, 0).clear()
        self.assertEqual(maze, ring())
        self.assertEqual(nearest(maze, 0), [0, 1, 2, 3])


if __name__ == "__main__":
    unittest.main()
