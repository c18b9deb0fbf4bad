import itertools
import unittest

import samples
from kinghall.errors import NoHall, NoPlayer
from kinghall.kings import kings_of, way_of


def is_king(hall, player):
    over = set(hall[player])
    for beaten in hall[player]:
        over |= set(hall[beaten])
    return over | {player} == set(range(len(hall)))


def steps_between(hall):
    """For each two players the fewest steps from the one to the other; a hundred or more where no way leads."""
    players = range(len(hall))
    steps = [[0 if one == other else 1 if other in hall[one] else 100 for other in players] for one in players]
    for between in players:
        for one in players:
            for other in players:
                steps[one][other] = min(steps[one][other], steps[one][between] + steps[between][other])
    return steps


def is_way(hall, row):
    return all(row[place + 1] in hall[row[place]] for place in range(len(row) - 1))


def fewest_by_trying_all(hall, one, other):
    for many in range(1, len(hall) + 1):
        for row in itertools.permutations(range(len(hall)), many):
            if row[0] == one and row[-1] == other and is_way(hall, row):
                return many
    return None


class TestKingsOf(unittest.TestCase):
    def check(self, hall):
        kings = kings_of(hall)
        self.assertIs(type(kings), list)
        self.assertEqual(kings, [player for player in range(len(hall)) if is_king(hall, player)], hall)
        self.assertNotIn(len(kings), (0, 2), hall)
        most = max(len(beaten) for beaten in hall)
        for player, beaten in enumerate(hall):
            if len(beaten) == most:
                self.assertIn(player, kings, hall)

    def test_few_players(self):
        self.assertEqual(kings_of([[]]), [0])
        self.assertEqual(kings_of([[1], []]), [0])
        self.assertEqual(kings_of([[], [0]]), [1])
        self.assertEqual(kings_of([[1], [2], [0]]), [0, 1, 2])
        self.assertEqual(kings_of([[2], [0, 2], []]), [1])

    def test_kings_need_no_more_than_two_steps(self):
        # From 0 a way leads to 3, but by three steps.
        self.assertEqual(kings_of([[1], [2], [0, 3], [0, 1]]), [1, 2, 3])
        for many in range(5, 13):
            self.assertEqual(kings_of(samples.winding(many)), [many - 3, many - 2, many - 1])

    def test_one_king_over_a_ladder(self):
        for many in range(1, 13):
            self.assertEqual(kings_of(samples.ladder(many)), [0])
            self.assertEqual(kings_of(samples.upward_ladder(many)), [many - 1])

    def test_all_are_kings_of_a_wheel(self):
        for many in range(3, 13, 2):
            self.assertEqual(kings_of(samples.wheel(many)), list(range(many)))

    def test_all_small_halls(self):
        for many in range(1, 6):
            for hall in samples.all_halls(many):
                self.check(hall)

    def test_halls_of_one_to_twelve_players(self):
        for hall in samples.halls_of_each_size(100):
            self.check(hall)

    def test_what_is_no_hall_is_refused(self):
        for hall in samples.no_halls():
            with self.assertRaises(NoHall, msg=hall):
                kings_of(hall)

    def test_argument_by_its_name(self):
        self.assertEqual(kings_of(hall=[[]]), [0])


class TestWayOf(unittest.TestCase):
    def check_way(self, hall, one, other, many):
        way = way_of(hall, one, other)
        self.assertIs(type(way), list)
        self.assertEqual((way[0], way[-1], len(way)), (one, other, many), (hall, way))
        self.assertTrue(set(way) <= set(range(len(hall))), (hall, way))
        self.assertTrue(is_way(hall, way), (hall, way))

    def check_refused(self, error, hall, one, other):
        with self.assertRaises(error, msg=(hall, one, other)) as taken:
            way_of(hall, one, other)
        self.assertIs(type(taken.exception), error)

    def check(self, hall):
        steps = steps_between(hall)
        for one in range(len(hall)):
            for other in range(len(hall)):
                if steps[one][other] < 100:
                    self.check_way(hall, one, other, steps[one][other] + 1)
                else:
                    self.assertIsNone(way_of(hall, one, other), (hall, one, other))

    def test_from_a_player_to_itself(self):
        for hall in samples.halls_of_each_size(2):
            for player in range(len(hall)):
                self.assertEqual(way_of(hall, player, player), [player])

    def test_straight_on(self):
        for hall in samples.halls_of_each_size(2):
            for player, beaten in enumerate(hall):
                for other in beaten:
                    self.assertEqual(way_of(hall, player, other), [player, other])

    def test_no_way_back_up_a_ladder(self):
        for many in range(2, 13):
            for one in range(many):
                for other in range(one):
                    self.assertIsNone(way_of(samples.ladder(many), one, other))
                    self.assertIsNone(way_of(samples.upward_ladder(many), other, one))

    def test_the_one_way_through_a_winding_hall(self):
        for many in range(1, 13):
            for one in range(many):
                for other in range(one, many):
                    self.assertEqual(way_of(samples.winding(many), one, other), list(range(one, other + 1)))

    def test_small_halls_by_trying_all(self):
        for many in range(1, 5):
            for hall in samples.all_halls(many):
                for one in range(many):
                    for other in range(many):
                        fewest = fewest_by_trying_all(hall, one, other)
                        if fewest is None:
                            self.assertIsNone(way_of(hall, one, other), (hall, one, other))
                        else:
                            self.check_way(hall, one, other, fewest)

    def test_all_halls_of_five(self):
        for hall in samples.all_halls(5):
            self.check(hall)

    def test_halls_of_one_to_twelve_players(self):
        for hall in samples.halls_of_each_size(30):
            self.check(hall)

    def test_no_player_is_refused_in_either_place_and_in_both(self):
        for hall in samples.halls_of_each_size(2):
            for wrong in samples.no_players(hall):
                for player in range(len(hall)):
                    self.check_refused(NoPlayer, hall, wrong, player)
                    self.check_refused(NoPlayer, hall, player, wrong)
                for other in samples.no_players(hall):
                    self.check_refused(NoPlayer, hall, wrong, other)

    def test_what_is_no_hall_is_refused_ahead_of_all_else(self):
        for hall in samples.no_halls():
            for one in (0, len(hall) - 1, -1, len(hall), 10 ** 29):
                for other in (0, -1, 10 ** 29):
                    self.check_refused(NoHall, hall, one, other)

    def test_arguments_by_their_names(self):
        self.assertEqual(way_of(other=1, one=0, hall=[[1], [2], [0]]), [0, 1])


if __name__ == "__main__":
    unittest.main()
