import unittest

import samples
from kinghall.errors import NoHall
from kinghall.groups import groups_of


def reached_from(hall, player):
    reached = [player]
    for one in reached:
        reached.extend(other for other in hall[one] if other not in reached)
    return reached


class TestGroupsOf(unittest.TestCase):
    def check(self, hall):
        groups = groups_of(hall)
        self.assertIs(type(groups), list)
        for group in groups:
            self.assertIs(type(group), list)
            self.assertEqual(group, sorted(set(group)), hall)
            for player in group:
                self.assertLessEqual(set(group), set(reached_from(hall, player)), hall)
        self.assertEqual(sorted(sum(groups, [])), list(range(len(hall))), hall)
        self.assertNotIn([], groups)
        for place, group in enumerate(groups):
            for player in group:
                for later in sum(groups[place + 1:], []):
                    self.assertIn(later, hall[player], (hall, groups))

    def test_one_player(self):
        self.assertEqual(groups_of([[]]), [[0]])

    def test_two_players(self):
        self.assertEqual(groups_of([[1], []]), [[0], [1]])
        self.assertEqual(groups_of([[], [0]]), [[1], [0]])

    def test_three_players(self):
        self.assertEqual(groups_of([[1], [2], [0]]), [[0, 1, 2]])
        self.assertEqual(groups_of([[2], [0], [1]]), [[0, 1, 2]])
        self.assertEqual(groups_of([[2], [0, 2], []]), [[1], [0], [2]])

    def test_one_ahead_of_or_behind_a_ring(self):
        self.assertEqual(groups_of([[1, 3], [2, 3], [0, 3], []]), [[0, 1, 2], [3]])
        self.assertEqual(groups_of([[1], [3], [0, 1, 3], [0]]), [[2], [0, 1, 3]])

    def test_ladders_have_a_group_for_each(self):
        for many in range(1, 13):
            self.assertEqual(groups_of(samples.ladder(many)), [[player] for player in range(many)])
            self.assertEqual(groups_of(samples.upward_ladder(many)), [[player] for player in range(many)][::-1])

    def test_halls_of_one_group(self):
        for many in range(3, 13):
            self.assertEqual(groups_of(samples.winding(many)), [list(range(many))])
        for many in range(3, 13, 2):
            self.assertEqual(groups_of(samples.wheel(many)), [list(range(many))])

    def test_halls_of_several_groups(self):
        hall = samples.stacked([samples.winding(3), samples.ladder(2), samples.wheel(5), samples.ladder(1)])
        groups = [[0, 1, 2], [3], [4], [5, 6, 7, 8, 9], [10]]
        self.assertEqual(groups_of(hall), groups)
        other_numbers = [sorted(player * 4 % 11 for player in group) for group in groups]
        self.assertEqual(groups_of(samples.renumbered(hall, 4)), other_numbers)

    def test_all_small_halls(self):
        for many in range(1, 6):
            for hall in samples.all_halls(many):
                self.check(hall)

    def test_halls_of_one_to_twelve_players(self):
        for hall in samples.halls_of_each_size(60):
            self.check(hall)

    def test_what_is_no_hall_is_refused(self):
        for hall in samples.no_halls():
            with self.assertRaises(NoHall, msg=hall):
                groups_of(hall)

    def test_argument_by_its_name(self):
        self.assertEqual(groups_of(hall=[[]]), [[0]])


if __name__ == "__main__":
    unittest.main()
