import itertools
import unittest

import samples
from kinghall.errors import NoHall
from kinghall.halls import is_hall, wins_of


def rows_over(numbers, longest):
    rows = []
    for length in range(longest + 1):
        rows.extend(list(row) for row in itertools.product(numbers, repeat=length))
    return rows


class TestIsHall(unittest.TestCase):
    def test_all_small_halls_are_halls(self):
        for many in range(1, 6):
            for hall in samples.all_halls(many):
                self.assertIs(is_hall(hall), True, hall)

    def test_halls_of_one_to_twelve_players(self):
        for hall in samples.halls_of_each_size(30):
            self.assertIs(is_hall(hall), True, hall)

    def test_written_halls(self):
        self.assertIs(is_hall([[]]), True)
        self.assertIs(is_hall([[1], []]), True)
        self.assertIs(is_hall([[], [0]]), True)
        self.assertIs(is_hall([[1], [2], [0]]), True)

    def test_just_the_halls_among_all_short_lists(self):
        for many, longest in ((1, 4), (2, 3), (3, 2)):
            halls = samples.all_halls(many)
            rows = rows_over(range(-many, many + 2), longest)
            taken = [list(rows) for rows in itertools.product(rows, repeat=many) if is_hall(list(rows))]
            self.assertEqual(sorted(taken), sorted(halls))

    def test_no_players(self):
        self.assertIs(is_hall([]), False)

    def test_thirteen_players_and_more(self):
        for many in (13, 14, 15, 40):
            self.assertIs(is_hall(samples.ladder(many)), False)
            self.assertIs(is_hall(samples.upward_ladder(many)), False)
        self.assertIs(is_hall(samples.wheel(13)), False)

    def test_a_number_that_is_no_player(self):
        for wrong in (-1, -2, -3, -10 ** 30, 3, 4, 12, 10 ** 30):
            self.assertIs(is_hall([[1, 2], [2], [wrong]]), False)
            self.assertIs(is_hall([sorted([wrong, 1, 2]), [2], []]), False)
            self.assertIs(is_hall([sorted([wrong, 1]), [2], [0]]), False)

    def test_a_number_below_nought_does_not_count_from_the_end(self):
        self.assertIs(is_hall([[-1], []]), False)
        self.assertIs(is_hall([[-2, 1], [2], []]), False)
        self.assertIs(is_hall([[], [-2]]), False)

    def test_the_player_itself(self):
        self.assertIs(is_hall([[0]]), False)
        self.assertIs(is_hall([[0, 1], []]), False)
        self.assertIs(is_hall([[1], [1]]), False)
        self.assertIs(is_hall([[1, 2], [1, 2], []]), False)

    def test_not_rising(self):
        self.assertIs(is_hall([[2, 1], [2], []]), False)
        self.assertIs(is_hall([[1, 2, 3], [3, 2], [3], []]), False)
        self.assertIs(is_hall([[1, 3, 2], [2, 3], [3], []]), False)

    def test_a_number_twice(self):
        self.assertIs(is_hall([[1, 1], []]), False)
        self.assertIs(is_hall([[1, 1, 2], [2], []]), False)
        self.assertIs(is_hall([[1, 2, 2], [2], []]), False)

    def test_a_pair_of_whom_none_won(self):
        self.assertIs(is_hall([[], []]), False)
        self.assertIs(is_hall([[1, 2], [], []]), False)
        self.assertIs(is_hall([[1], [2], []]), False)

    def test_a_pair_of_whom_both_won(self):
        self.assertIs(is_hall([[1], [0]]), False)
        self.assertIs(is_hall([[1, 2], [2], [0]]), False)
        self.assertIs(is_hall([[1, 2], [0, 2], []]), False)

    def test_one_pair_without_and_one_with_two_winners(self):
        self.assertIs(is_hall([[1], [0], []]), False)
        self.assertIs(is_hall([[1, 2], [0], []]), False)

    def test_every_spoilt_hall(self):
        for hall in samples.no_halls():
            self.assertIs(is_hall(hall), False, hall)

    def test_argument_by_its_name(self):
        self.assertIs(is_hall(hall=[[]]), True)


class TestWins(unittest.TestCase):
    def test_written_wins(self):
        self.assertEqual(wins_of([[]]), [0])
        self.assertEqual(wins_of([[1], []]), [1, 0])
        self.assertEqual(wins_of([[], [0]]), [0, 1])
        self.assertEqual(wins_of([[1], [2], [0]]), [1, 1, 1])
        self.assertEqual(wins_of([[1], [], [0, 1]]), [1, 0, 2])
        self.assertEqual(wins_of([[2], [0, 3], [1, 3], [0]]), [1, 2, 2, 1])

    def test_ladders(self):
        for many in range(1, 13):
            self.assertEqual(wins_of(samples.ladder(many)), list(range(many - 1, -1, -1)))
            self.assertEqual(wins_of(samples.upward_ladder(many)), list(range(many)))

    def test_pair_by_pair(self):
        for hall in samples.halls_of_each_size(30):
            many = len(hall)
            wins = [0] * many
            for one in range(many):
                for other in range(one):
                    wins[one if other in hall[one] else other] += 1
            self.assertEqual(wins_of(hall), wins)
            self.assertIs(type(wins_of(hall)), list)

    def test_what_is_no_hall_is_refused(self):
        for hall in samples.no_halls():
            with self.assertRaises(NoHall, msg=hall):
                wins_of(hall)

    def test_argument_by_its_name(self):
        self.assertEqual(wins_of(hall=[[]]), [0])


if __name__ == "__main__":
    unittest.main()
