import itertools
import unittest

import samples
from kinghall.errors import NoRow
from kinghall.halls import is_hall, wins_of
from kinghall.rows import can_be, made


def fits(row):
    """What the document asks of a row, by trying every part of it."""
    many = len(row)
    if many not in range(1, 13) or sum(row) != many * (many - 1) // 2:
        return False
    least = [min(sum(part) for part in itertools.combinations(row, k)) for k in range(1, many + 1)]
    return all(least[k - 1] >= k * (k - 1) // 2 for k in range(1, many + 1))


def wins_told():
    """The wins of halls of 1 to 12 players, in several orders."""
    rows = []
    for hall in samples.halls_of_each_size(8):
        row = [len(beaten) for beaten in hall]
        for other in (row, row[::-1], sorted(row)):
            if other not in rows:
                rows.append(other)
    return rows


def moved(row, step):
    """One number is greater by the step, and another one less."""
    rows = []
    for one in range(len(row)):
        for other in range(len(row)):
            if one != other:
                moved_row = list(row)
                moved_row[one] += step
                moved_row[other] -= step
                rows.append(moved_row)
    return rows


def never(row):
    """Rows near to one that can be, none of which can be."""
    rows = [row + [0], [0] + row, [-1] + row]
    for place in range(len(row)):
        for wrong in (-1, -2, row[place] - len(row), row[place] - 1, row[place] + 1, -10 ** 30, 10 ** 30):
            if wrong != row[place]:
                rows.append(row[:place] + [wrong] + row[place + 1:])
    return rows


class TestCanBe(unittest.TestCase):
    def test_written_rows(self):
        for row in ([0], [1, 0], [0, 1], [1, 1, 1], [2, 1, 0], [0, 2, 1], [1, 2, 2, 1], [3, 1, 1, 1], [2, 2, 2, 0]):
            self.assertIs(can_be(row), True, row)
        for row in ([1], [-1], [0, 0], [1, 1], [2, -1], [0, 0, 3], [3, 0, 0], [2, 2, -1], [2, 1, 1], [1, 1, 0],
                    [3, 3, 0, 0], [0, 0, 3, 3], [1, 1, 4, 0], [0, 1, 1, 4], [4, 4, 1, 1, 0]):
            self.assertIs(can_be(row), False, row)

    def test_the_least_are_not_the_first(self):
        # The first numbers alone would do; the two least, which stand behind, have no win of each other.
        self.assertIs(can_be([3, 3, 0, 0]), False)
        self.assertIs(can_be([2, 4, 4, 0, 0]), False)
        self.assertIs(can_be([0, 3, 3, 0]), False)

    def test_all_short_rows_held_against_all_halls(self):
        for many in range(1, 5):
            wins = [wins_of(hall) for hall in samples.all_halls(many)]
            for row in itertools.product(range(-1, 5), repeat=many):
                self.assertIs(can_be(list(row)), list(row) in wins, row)

    def test_rows_of_five_held_against_all_halls(self):
        wins = {tuple(wins_of(hall)) for hall in samples.all_halls(5)}
        for row in itertools.product(range(-1, 6), repeat=5):
            self.assertIs(can_be(list(row)), row in wins, row)

    def test_wins_of_halls_can_be(self):
        for row in wins_told():
            self.assertIs(can_be(row), True, row)

    def test_one_number_more_and_another_less(self):
        for row in wins_told()[::3]:
            for step in (1, 2, len(row)):
                for other in moved(row, step)[::5]:
                    self.assertIs(can_be(other), fits(other), other)

    def test_steep_rows_of_twelve(self):
        ladder = list(range(12))
        for other in moved(ladder, 1) + moved(ladder[::-1], 1):
            self.assertIs(can_be(other), fits(other), other)
        self.assertIs(can_be([0] * 6 + [11] * 6), False)
        self.assertIs(can_be([5] * 6 + [6] * 6), True)
        self.assertIs(can_be([6, 5] * 6), True)
        self.assertIs(can_be([0] + [6] * 11), True)
        self.assertIs(can_be([11] + [5] * 11), True)
        self.assertIs(can_be([12, 4] + [5] * 10), False)

    def test_a_wrong_sum_or_a_number_below_nought(self):
        for row in wins_told():
            for other in never(row):
                self.assertIs(can_be(other), False, other)

    def test_one_left_out_or_put_in(self):
        for row in wins_told()[::4]:
            for place in range(len(row)):
                for other in [row[:place] + row[place + 1:]] + [
                        row[:place] + [number] + row[place:] for number in (-1, 0, 1, len(row), len(row) + 1)]:
                    self.assertIs(can_be(other), fits(other), other)

    def test_no_numbers(self):
        self.assertIs(can_be([]), False)

    def test_thirteen_numbers_and_more(self):
        for many in (13, 14, 15, 25, 200):
            self.assertIs(can_be(list(range(many))), False)
            self.assertIs(can_be(list(range(many))[::-1]), False)
        for many in (13, 15, 25):
            self.assertIs(can_be([many // 2] * many), False)
        for row in wins_told():
            if len(row) == 12:
                self.assertIs(can_be(row + [12]), False)
                self.assertIs(can_be([wins + 1 for wins in row] + [0]), False)

    def test_far_numbers(self):
        far = 10 ** 29 + 7
        for row in ([far], [-far], [far, 1 - far], [1 - far, far], [far, 3 - far, 0], [-far, far, 1, 2, 3], [far] * 12):
            self.assertIs(can_be(row), False, row)

    def test_argument_by_its_name(self):
        self.assertIs(can_be(row=[0]), True)


class TestMade(unittest.TestCase):
    def check(self, row):
        hall = made(row)
        self.assertIs(type(hall), list)
        self.assertEqual([type(beaten) for beaten in hall], [list] * len(row))
        self.assertTrue(is_hall(hall), (row, hall))
        self.assertEqual([len(beaten) for beaten in hall], row, hall)

    def check_refused(self, row):
        with self.assertRaises(NoRow, msg=row) as taken:
            made(row)
        self.assertIs(type(taken.exception), NoRow)

    def test_where_there_is_but_one_hall(self):
        self.assertEqual(made([0]), [[]])
        self.assertEqual(made([1, 0]), [[1], []])
        self.assertEqual(made([0, 1]), [[], [0]])
        for many in range(1, 13):
            self.assertEqual(made(list(range(many))), samples.upward_ladder(many))
            self.assertEqual(made(list(range(many))[::-1]), samples.ladder(many))

    def test_all_short_rows(self):
        for many in range(1, 5):
            wins = [wins_of(hall) for hall in samples.all_halls(many)]
            for row in itertools.product(range(-1, 5), repeat=many):
                if list(row) in wins:
                    self.check(list(row))
                else:
                    self.check_refused(list(row))

    def test_all_rows_of_five_that_can_be(self):
        for row in sorted({tuple(wins_of(hall)) for hall in samples.all_halls(5)}):
            self.check(list(row))

    def test_wins_of_halls_of_one_to_twelve_players(self):
        for row in wins_told():
            self.check(row)
        for row in ([5] * 6 + [6] * 6, [6] * 6 + [5] * 6, [0] + [6] * 11, [11] + [5] * 11, [5] * 11):
            self.check(row)

    def test_one_number_more_and_another_less(self):
        for row in wins_told()[::3]:
            for step in (1, 2, len(row)):
                for other in moved(row, step)[::7]:
                    if fits(other):
                        self.check(other)
                    else:
                        self.check_refused(other)

    def test_rows_that_can_not_be(self):
        for row in wins_told()[::2]:
            for other in never(row):
                self.check_refused(other)

    def test_too_few_and_too_many(self):
        self.check_refused([])
        for many in (13, 14, 15, 25, 200):
            self.check_refused(list(range(many)))
            self.check_refused([many // 2] * many)
        for row in wins_told():
            if len(row) == 12:
                self.check_refused(row + [12])
                self.check_refused([wins + 1 for wins in row] + [0])

    def test_argument_by_its_name(self):
        self.assertEqual(made(row=[0]), [[]])


if __name__ == "__main__":
    unittest.main()
