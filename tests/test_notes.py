"""The text of a maze: written and read."""

import unittest

from mazeguide.errors import NoKey, NoMaze, NoRoom, TooMany
from mazeguide.mazes import checked
from mazeguide.notes import read, written
from tests.support import MANY_STATES, MANY_WALKS, outcome, outcome_unchanged, ring
from tests.told import mixed_mazes, small_mazes

RING_ROWS = [
    "rooms 4",
    "door 0 1",
    "door 2 1 by 3",
    "door 1 2 by 0",
    "door 2 3 by 4",
    "door 3 0 by 1",
    "door 2 2",
    "door 3 3 by 2",
    "key 3 in 1",
    "key 0 in 1",
    "key 4 in 2",
    "key 3 in 1",
    "key 1 in 3",
    "key 2 in 0",
    "key 4 in 2",
]

# A word in the place of a number that writes none.
NO_NUMBERS = [
    "", "x", "one", "O", "l", "None", "0x1", "1x", "x1", "1.0", "1e0", "0b1", "1_0", "_1", "1,0", "1.",
    "00", "01", "007", "000", "0000000001",
    "-1", "-0", "+1", "+0", "-", "+", "--1", "1-", "1+1",
    "\u0661", "\u0967", "\uff11", "\u00b2", "\u2460", "\u00bd", "1\u0660", "\u06601", "\u4e00",
    "1\t", "\t1", "1\r", "\r1", "1\u00a0", "\u00a01", "1\x00", "\ufeff1", "1\u200b", "1\x1f", "1\x0b",
]

# A row that is none behind the first one, whatever the maze.
NO_ROWS = [
    "", " ", "  ", "\t", "\r", "\x0c", "\u2028",
    "door", "door ", "door 0", "door 0 ", "door 0 0 0", "door 0 0 by", "door 0 0 by ", "door 0 by 0",
    "door 0 0 by 0 0", "door 0 0 by 0 by 0", "door 0 0 0 0", "door by 0", "door 0 0 by by", "door 0 0 By 0",
    "door 0 0 BY 0", "door 0 0 in 0", "door 0 0 with 0", "door 0 0 by None", "door 0 0 None", "by 0 0 door 0",
    "Door 0 0", "DOOR 0 0", "doors 0 0", "gate 0 0", "0 door 0", "0 0 door", "0 0", "door0 0", "door 00",
    "key", "key ", "key 0", "key 0 in", "key 0 in ", "key in 0", "key 0 0", "key 0 0 0", "key 0 on 0",
    "key 0 In 0", "key 0 in 0 0", "key 0 in 0 in 0", "key 0 in 0 by 0", "key 0 by 0", "key 0 in in",
    "Key 0 in 0", "KEY 0 in 0", "keys 0 in 0", "0 in 0", "in 0 key 0", "key 0in 0", "key 0 in0",
    "rooms 4", "rooms 0", "rooms 61", "rooms", "room 4", "# door 0 0", "4", "(0, 0, None)",
    " door 0 0", "door 0 0 ", "door  0 0", "door 0  0", " door 0 0 by 0", "door 0 0 by 0 ", "door  0 0 by 0",
    "door 0  0 by 0", "door 0 0  by 0", "door 0 0 by  0", " key 0 in 0", "key 0 in 0 ", "key  0 in 0",
    "key 0  in 0", "key 0 in  0", "  door 0 0", "door 0 0  ", "\tdoor 0 0", "door 0 0\t", "door\t0 0",
    "door 0\t0", "key 0\tin 0", "key 0 in\t0", "key\t0 in 0", "door\u00a00 0", "door 0\u00a00", "key 0\u2003in 0",
    "door 0 0\r", "key 0 in 0\r", "door 0 0\x0bdoor 0 0", "door 0 0\x0ckey 0 in 0", "door 0 0\x85door 0 0",
    "door 0 0\u2028door 0 0", "door 0 0\rdoor 0 0", "door 0 0;door 0 0", "door 0 0 door 0 0", "door 0, 0",
    "door 0 0.", "key 0 in 0,", "key: 0 in 0", "\ufeffdoor 0 0",
]

# A first row that is none.
NO_FIRST_ROWS = [
    "", " ", "\t", "\r", "4", "rooms", "rooms ", " rooms 4", "rooms 4 ", "rooms  4", "rooms\t4", "rooms 4\r",
    "rooms 4 4", "room 4", "Rooms 4", "ROOMS 4", "rooms: 4", "rooms=4", "4 rooms", "rooms four", "rooms4",
    "rooms 4,", "rooms 4 doors 1", "rooms\u00a04", "\ufeffrooms 4", "door 0 0", "door 0 0 by 0", "key 0 in 0",
    "rooms 4\r\rdoor 0 0", "rooms 4\u2028door 0 0", "rooms 4\x0bdoor 0 0", "maze", "rooms by 4", "rooms in 4",
]


class Written(unittest.TestCase):
    def writes(self, maze, text):
        self.assertEqual(outcome_unchanged(self, written, maze), text)

    def test_the_rows_of_an_ordinary_maze(self):
        self.writes(ring(), "\n".join(RING_ROWS))

    def test_one_and_sixty_rooms_without_doors_and_keys(self):
        self.writes((1, [], []), "rooms 1")
        self.writes((60, [], []), "rooms 60")

    def test_no_line_feed_behind_the_last_row(self):
        self.writes((1, [(0, 0, None)], []), "rooms 1\ndoor 0 0")
        self.writes((1, [(0, 0, 4)], []), "rooms 1\ndoor 0 0 by 4")
        self.writes((1, [], [(0, 4)]), "rooms 1\nkey 4 in 0")

    def test_the_lock_of_kind_nought_is_written(self):
        self.writes((2, [(0, 1, 0), (1, 0, None)], []), "rooms 2\ndoor 0 1 by 0\ndoor 1 0")

    def test_the_kind_of_a_key_stands_ahead_of_its_room(self):
        self.writes((60, [], [(59, 4), (0, 3)]), "rooms 60\nkey 4 in 59\nkey 3 in 0")

    def test_doors_and_keys_in_their_order_and_as_often_as_they_stand(self):
        maze = (3, [(2, 1, None), (0, 1, 2), (2, 1, None)], [(2, 4), (0, 1), (2, 4)])
        rows = "rooms 3\ndoor 2 1\ndoor 0 1 by 2\ndoor 2 1\nkey 4 in 2\nkey 1 in 0\nkey 4 in 2"
        self.writes(maze, rows)

    def test_the_most_doors(self):
        doors = [(at % 60, 59, at % 5) for at in range(90)]
        rows = [f"door {at % 60} 59 by {at % 5}" for at in range(90)]
        self.writes((60, doors, []), "\n".join(["rooms 60", *rows]))

    def test_the_most_keys(self):
        keys = [(at, at % 5) for at in range(60)]
        rows = [f"key {at % 5} in {at}" for at in range(60)]
        self.writes((60, [], keys), "\n".join(["rooms 60", *rows]))

    def test_the_text_is_that_of_the_maze_as_it_is_now(self):
        maze = (2, [], [])
        self.writes(maze, "rooms 2")
        maze[2].append((1, 0))
        maze[1].append((0, 1, None))
        self.writes(maze, "rooms 2\ndoor 0 1\nkey 0 in 1")


class ReadTakes(unittest.TestCase):
    def gives(self, text, maze):
        answer = outcome(read, text)
        self.assertEqual(answer, maze)
        self.assertIsInstance(answer, tuple)
        self.assertIs(checked(answer), answer)
        for row in answer[1] + answer[2]:
            self.assertIsInstance(row, tuple)

    def test_the_rows_of_an_ordinary_maze(self):
        self.gives("\n".join(RING_ROWS), ring())

    def test_one_and_sixty_rooms_without_doors_and_keys(self):
        self.gives("rooms 1", (1, [], []))
        self.gives("rooms 60", (60, [], []))

    def test_the_lock_of_kind_nought_is_a_lock(self):
        self.gives("rooms 2\ndoor 0 1 by 0\ndoor 1 0", (2, [(0, 1, 0), (1, 0, None)], []))

    def test_the_kind_of_a_key_stands_ahead_of_its_room(self):
        self.gives("rooms 60\nkey 4 in 59\nkey 3 in 0", (60, [], [(59, 4), (0, 3)]))

    def test_doors_and_keys_in_mixed_order(self):
        text = "rooms 3\nkey 1 in 2\ndoor 0 1 by 2\nkey 0 in 0\nkey 1 in 2\ndoor 2 1\ndoor 0 1 by 2\nkey 4 in 1"
        maze = (3, [(0, 1, 2), (2, 1, None), (0, 1, 2)], [(2, 1), (0, 0), (2, 1), (1, 4)])
        self.gives(text, maze)
        self.gives("\n".join(RING_ROWS[:1] + RING_ROWS[8:] + RING_ROWS[1:8]), ring())

    def test_the_most_doors_and_keys(self):
        text = "rooms 60" + "\nkey 4 in 59\ndoor 59 0 by 4" * 60 + "\ndoor 0 59" * 30
        self.gives(text, (60, [(59, 0, 4)] * 60 + [(0, 59, None)] * 30, [(59, 4)] * 60))

    def test_what_is_written_is_read_to_an_equal_maze(self):
        greatest = (60, [(at % 60, 59, at % 5) for at in range(90)], [(at, at % 5) for at in range(60)])
        ordinary = [ring(), MANY_STATES, MANY_WALKS, greatest, (1, [], []), (60, [], [])]
        for maze in [*ordinary, *small_mazes(), *mixed_mazes(100, 60, 90, 60)]:
            self.gives(written(maze), maze)

    def test_what_is_read_is_new(self):
        text = written(ring())
        first = read(text)
        first[1].clear()
        first[2].append("more")
        self.assertEqual(read(text), ring())
        nothing = read("rooms 1")
        nothing[1].append("more")
        nothing[2].append("more")
        self.assertEqual(read("rooms 1"), (1, [], []))


class ReadRefusesTexts(unittest.TestCase):
    def refuses(self, text):
        self.assertEqual(outcome(read, text), NoMaze, text)

    def test_an_empty_text(self):
        self.refuses("")
        self.refuses("\n")

    def test_another_first_row(self):
        for row in NO_FIRST_ROWS:
            self.refuses(row)
            self.refuses(row + "\ndoor 0 0")
            self.refuses(row + "\nrooms 4")

    def test_the_first_row_s_form_again_further_on(self):
        for again in ("rooms 4", "rooms 1", "rooms 0", "rooms 61", "rooms " + "9" * 60):
            self.refuses("rooms 4\n" + again)
            self.refuses("rooms 4\ndoor 0 1\n" + again)
            self.refuses("rooms 4\n" + again + "\nkey 0 in 1")

    def test_a_row_that_is_none_wherever_it_stands(self):
        for row in NO_ROWS:
            self.refuses("rooms 4\n" + row)
            self.refuses("rooms 4\n" + row + "\ndoor 0 0")
            self.refuses("rooms 4\ndoor 0 0\nkey 0 in 0\n" + row)
            self.refuses(row + "\nrooms 4")

    def test_a_line_feed_too_many(self):
        self.refuses("rooms 4\n")
        self.refuses("\nrooms 4")
        self.refuses("rooms 4\n\n")
        self.refuses(written(ring()) + "\n")
        self.refuses("\n" + written(ring()))
        self.refuses("rooms 4\n\ndoor 0 1")
        self.refuses("rooms 4\ndoor 0 1\n\nkey 0 in 1")

    def test_other_signs_between_the_rows(self):
        for sign in ("\r\n", "\n\r", "\r", "\x0b", "\x0c", "\x85", "\u2028", "\u2029", "\x1e", ";", " ", ""):
            self.refuses(sign.join(RING_ROWS))
            self.refuses(sign.join(["rooms 4", "door 0 1"]))
            self.refuses("rooms 4\n" + sign.join(["key 0 in 0", "key 0 in 0"]))

    def test_other_signs_between_the_words(self):
        for sign in ("\t", "\u00a0", "\u3000", "\x0b", "_", ",", "", "  ", " \t"):
            self.refuses(sign.join(["rooms", "4"]))
            for row in RING_ROWS[1:]:
                self.refuses("rooms 4\n" + sign.join(row.split(" ")))

    def test_a_word_that_is_no_number_in_each_place(self):
        for word in NO_NUMBERS:
            self.refuses(f"rooms {word}")
            self.refuses(f"rooms 4\ndoor {word} 0")
            self.refuses(f"rooms 4\ndoor 0 {word}")
            self.refuses(f"rooms 4\ndoor {word} 0 by 0")
            self.refuses(f"rooms 4\ndoor 0 {word} by 0")
            self.refuses(f"rooms 4\ndoor 0 0 by {word}")
            self.refuses(f"rooms 4\nkey {word} in 0")
            self.refuses(f"rooms 4\nkey 0 in {word}")


class ReadRefusesMazes(unittest.TestCase):
    def refuses(self, error, *rows):
        self.assertEqual(outcome(read, "\n".join(rows)), error, rows)

    def test_rooms(self):
        self.refuses(NoRoom, "rooms 0")
        self.refuses(TooMany, "rooms 61")
        self.refuses(TooMany, "rooms 100")

    def test_more_than_ninety_doors_or_sixty_keys(self):
        self.refuses(TooMany, "rooms 1", *["door 0 0"] * 91)
        self.refuses(TooMany, "rooms 1", *["key 0 in 0"] * 61)
        self.refuses(TooMany, "rooms 1", *["key 0 in 0", "door 0 0 by 0"] * 91)

    def test_the_ends_and_the_lock_of_a_door(self):
        self.refuses(NoRoom, "rooms 2", "door 2 0")
        self.refuses(NoRoom, "rooms 2", "door 0 2")
        self.refuses(NoRoom, "rooms 2", "door 2 0 by 5")
        self.refuses(NoRoom, "rooms 2", "door 0 2 by 5")
        self.refuses(NoKey, "rooms 2", "door 0 1 by 5")
        self.refuses(NoKey, "rooms 60", "door 59 0 by 10")

    def test_the_room_and_the_kind_of_a_key(self):
        self.refuses(NoRoom, "rooms 2", "key 0 in 2")
        self.refuses(NoRoom, "rooms 2", "key 5 in 2")
        self.refuses(NoKey, "rooms 2", "key 5 in 1")

    def test_the_first_of_several_as_point_five_tells(self):
        self.refuses(NoRoom, "rooms 0", *["door 0 0 by 5"] * 91)
        self.refuses(TooMany, "rooms 61", "door 61 0", "door 0 0 by 5")
        self.refuses(TooMany, "rooms 1", "key 0 in 1", *["door 0 0"] * 91)
        self.refuses(TooMany, "rooms 1", "door 1 0", *["key 0 in 0"] * 61)
        self.refuses(NoKey, "rooms 2", "door 0 0 by 5", "door 2 0")
        self.refuses(NoRoom, "rooms 2", "door 2 0", "door 0 0 by 5")
        self.refuses(NoKey, "rooms 2", "key 5 in 1", "key 0 in 2")
        self.refuses(NoRoom, "rooms 2", "key 0 in 2", "key 5 in 1")

    def test_doors_ahead_of_keys_whatever_the_order_of_the_rows(self):
        self.refuses(NoKey, "rooms 2", "key 0 in 2", "door 0 0 by 5")
        self.refuses(NoRoom, "rooms 2", "key 5 in 0", "door 0 2")

    def test_numbers_of_up_to_sixty_figures(self):
        for figures in (3, 19, 20, 21, 40, 59, 60):
            for number in ("1" + "0" * (figures - 1), "9" * figures):
                self.refuses(TooMany, f"rooms {number}")
                self.refuses(NoRoom, "rooms 60", f"door {number} 0")
                self.refuses(NoRoom, "rooms 60", f"door 0 {number} by 0")
                self.refuses(NoKey, "rooms 60", f"door 0 59 by {number}")
                self.refuses(NoRoom, "rooms 60", f"key 0 in {number}")
                self.refuses(NoKey, "rooms 60", f"key {number} in 0")
                self.refuses(NoMaze, f"rooms 0{number}")
                self.refuses(NoMaze, f"rooms {number}x")

    def test_a_row_that_is_none_counts_ahead_wherever_it_stands(self):
        many_doors = ["door 0 0"] * 91
        many_keys = ["key 0 in 0"] * 61
        wrong = [
            ("rooms 0",), ("rooms 61",), ("rooms 1", *many_doors), ("rooms 1", *many_keys),
            ("rooms 2", "door 2 0"), ("rooms 2", "door 0 2"), ("rooms 2", "door 0 1 by 5"),
            ("rooms 2", "key 0 in 2"), ("rooms 2", "key 5 in 0"),
        ]
        for rows in wrong:
            self.assertNotEqual(outcome(read, "\n".join(rows)), NoMaze)
            for row in ("", "door 0", "door 0 0 ", "door 0 01", "key 0 in -1", "rooms 4", "rooms 0"):
                self.refuses(NoMaze, *rows, row)
                self.refuses(NoMaze, rows[0], row, *rows[1:])


if __name__ == "__main__":
    unittest.main()
