import itertools
import math
import unittest

import samples
from kinghall.errors import NoHall
from kinghall.lines import line_of, lines_many


def is_line(hall, line):
    if sorted(line) != list(range(len(hall))):
        return False
    return all(line[k + 1] in hall[line[k]] for k in range(len(line) - 1))


def lines_by_trying_all(hall):
    return sum(1 for line in itertools.permutations(range(len(hall))) if is_line(hall, line))


def lines_step_by_step(hall, line):
    if len(line) == len(hall):
        return 1
    ahead = range(len(hall)) if not line else hall[line[-1]]
    return sum(lines_step_by_step(hall, line + [player]) for player in ahead if player not in line)


class TestLineOf(unittest.TestCase):
    def check(self, hall):
        line = line_of(hall)
        self.assertIs(type(line), list)
        self.assertTrue(is_line(hall, line), (hall, line))

    def test_one_player(self):
        self.assertEqual(line_of([[]]), [0])

    def test_where_there_is_but_one_line(self):
        for many in range(1, 13):
            self.assertEqual(line_of(samples.ladder(many)), list(range(many)))
            self.assertEqual(line_of(samples.upward_ladder(many)), list(range(many - 1, -1, -1)))

    def test_all_small_halls(self):
        for many in range(1, 6):
            for hall in samples.all_halls(many):
                self.check(hall)

    def test_halls_of_one_to_twelve_players(self):
        for hall in samples.halls_of_each_size(100):
            self.check(hall)

    def test_what_is_no_hall_is_refused(self):
        for hall in samples.no_halls():
            with self.assertRaises(NoHall, msg=hall):
                line_of(hall)

    def test_argument_by_its_name(self):
        self.assertEqual(line_of(hall=[[]]), [0])


class TestLinesMany(unittest.TestCase):
    def test_one_player_has_one(self):
        self.assertEqual(lines_many([[]]), 1)

    def test_two_players_have_one(self):
        self.assertEqual(lines_many([[1], []]), 1)
        self.assertEqual(lines_many([[], [0]]), 1)

    def test_ladders_have_one(self):
        for many in range(1, 10):
            self.assertEqual(lines_many(samples.ladder(many)), 1)
            self.assertEqual(lines_many(samples.upward_ladder(many)), 1)

    def test_known_numbers(self):
        self.assertEqual(lines_many([[1], [2], [0]]), 3)
        self.assertEqual(lines_many(samples.wheel(5)), 15)
        self.assertEqual(lines_many(samples.squares_hall()), 189)

    def test_all_small_halls_by_trying_all(self):
        for many in range(1, 6):
            for hall in samples.all_halls(many):
                self.assertEqual(lines_many(hall), lines_by_trying_all(hall), hall)

    def test_lines_of_all_halls_together(self):
        # A row of players is a line where its n less 1 neighbours met in its favour.
        for many in range(2, 6):
            free_pairs = samples.pairs_many(many) - (many - 1)
            together = sum(lines_many(hall) for hall in samples.all_halls(many))
            self.assertEqual(together, math.factorial(many) * 2 ** free_pairs)

    def test_halls_of_six_to_nine_players(self):
        for many in range(6, 10):
            for hall in samples.some_halls(many, 12):
                self.assertEqual(lines_many(hall), lines_step_by_step(hall, []), hall)
        for many in (7, 9):
            self.assertEqual(lines_many(samples.wheel(many)), lines_step_by_step(samples.wheel(many), []))

    def test_always_odd_and_a_whole_number(self):
        for many in range(1, 10):
            for hall in samples.some_halls(many, 30):
                self.assertIs(type(lines_many(hall)), int)
                self.assertEqual(lines_many(hall) % 2, 1, hall)

    def test_what_is_no_hall_is_refused(self):
        for hall in samples.no_halls():
            with self.assertRaises(NoHall, msg=hall):
                lines_many(hall)

    def test_argument_by_its_name(self):
        self.assertEqual(lines_many(hall=[[]]), 1)


if __name__ == "__main__":
    unittest.main()
