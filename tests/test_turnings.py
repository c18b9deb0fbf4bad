import itertools
import unittest

import samples
from kinghall.errors import NoHall, NoRing, Unlike
from kinghall.turnings import turned, turnings

FAR = 10 ** 29 + 7

# Rings of a hall, or tuples that are none of any.
BESIDE_NO_HALL = ((0, 1, 2), (0, 2, 1), (1, 1, 1), (0, 1, 0), (-1, -2, -3), (0, 1, 40), (FAR, -FAR, 0))


def other_rounds(ring):
    """The same ring, told from another player on."""
    return [ring[1:] + ring[:1], ring[2:] + ring[:2]]


def wins(hall):
    return [len(beaten) for beaten in hall]


def halls_by_wins(many):
    by_wins = {}
    for hall in samples.all_halls(many):
        by_wins.setdefault(tuple(wins(hall)), []).append(hall)
    return list(by_wins.values())


class TestTurned(unittest.TestCase):
    def check_refused(self, error, hall, ring):
        with self.assertRaises(error, msg=(hall, ring)) as taken:
            turned(hall, ring)
        self.assertIs(type(taken.exception), error)

    def check(self, hall, ring):
        told = turned(hall, ring)
        self.assertEqual([type(told)] + [type(beaten) for beaten in told], [list] * (len(hall) + 1))
        for one in range(len(hall)):
            self.assertEqual(told[one], sorted(set(told[one])), (hall, ring))
            for other in range(len(hall)):
                if one != other:
                    both_in = one in ring and other in ring
                    self.assertEqual(other in told[one], (other in hall[one]) != both_in, (hall, ring, one, other))
        self.assertEqual(wins(told), wins(hall), (hall, ring))
        for same in other_rounds(ring):
            self.assertEqual(turned(hall, same), told, (hall, same))
        self.assertEqual(turned(told, ring[::-1]), hall, (hall, ring))
        self.check_refused(NoRing, told, ring)

    def test_three_players(self):
        for ring in ((0, 1, 2), (1, 2, 0), (2, 0, 1)):
            self.assertEqual(turned([[1], [2], [0]], ring), [[2], [0], [1]])
            self.check_refused(NoRing, [[2], [0], [1]], ring)
        for ring in ((0, 2, 1), (2, 1, 0), (1, 0, 2)):
            self.assertEqual(turned([[2], [0], [1]], ring), [[1], [2], [0]])
            self.check_refused(NoRing, [[1], [2], [0]], ring)

    def test_all_else_stays(self):
        self.assertEqual(turned([[1, 3], [2, 3], [0, 3], []], (0, 1, 2)), [[2, 3], [0, 3], [1, 3], []])
        self.assertEqual(turned([[1], [3], [0, 1, 3], [0]], (3, 0, 1)), [[3], [0], [0, 1, 3], [1]])

    def test_all_tuples_at_small_halls(self):
        for many in range(1, 5):
            for hall in samples.all_halls(many):
                for ring in itertools.product(range(-many, many + 2), repeat=3):
                    if samples.is_ring_of_three(hall, ring):
                        self.check(hall, ring)
                    else:
                        self.check_refused(NoRing, hall, ring)

    def test_halls_of_five(self):
        for hall in samples.all_halls(5)[::3]:
            for ring in samples.rings_of_three(hall):
                self.check(hall, ring)

    def test_halls_of_one_to_twelve_players(self):
        for hall in samples.halls_of_each_size(4):
            for ring in samples.rings_of_three(hall)[::3]:
                self.check(hall, ring)

    def test_three_who_are_no_ring_in_this_order(self):
        for hall in samples.halls_of_each_size(2):
            for ring in list(itertools.permutations(range(len(hall)), 3))[::11]:
                if not samples.is_ring_of_three(hall, ring):
                    self.check_refused(NoRing, hall, ring)
            for ring in samples.rings_of_three(hall)[::5]:
                for wrong in [ring[::-1]] + other_rounds(ring[::-1]):
                    self.check_refused(NoRing, hall, wrong)

    def test_a_ladder_has_no_ring(self):
        for many in range(1, 8):
            for hall in (samples.ladder(many), samples.upward_ladder(many)):
                for ring in itertools.product(range(many), repeat=3):
                    self.check_refused(NoRing, hall, ring)

    def test_twice_the_same_player(self):
        for hall in samples.halls_of_each_size(1):
            for one in range(len(hall)):
                self.check_refused(NoRing, hall, (one, one, one))
                for other in hall[one]:
                    for ring in ((one, one, other), (one, other, one), (one, other, other),
                                 (other, one, one), (other, one, other), (other, other, one)):
                        self.check_refused(NoRing, hall, ring)

    def test_numbers_that_are_no_players(self):
        for hall in samples.halls_of_each_size(2):
            for ring in samples.rings_of_three(hall)[::7] + [(0, 0, 0), (0, 1, 2)]:
                for place in range(3):
                    wrongs = samples.no_players(hall) + [ring[place] - len(hall), ring[place] + len(hall)]
                    for wrong in wrongs:
                        self.check_refused(NoRing, hall, ring[:place] + (wrong,) + ring[place + 1:])

    def test_no_number_is_a_players(self):
        for hall in samples.halls_of_each_size(1):
            many = len(hall)
            for ring in samples.rings_of_three(hall)[::7] + [(0, 1, 2)]:
                self.check_refused(NoRing, hall, tuple(player - many for player in ring))
                self.check_refused(NoRing, hall, tuple(player + many for player in ring))
                self.check_refused(NoRing, hall, tuple(player - FAR for player in ring))
                self.check_refused(NoRing, hall, tuple(player + FAR for player in ring))

    def test_what_is_no_hall_is_refused_ahead_of_all_else(self):
        for hall in samples.no_halls():
            for ring in BESIDE_NO_HALL:
                self.check_refused(NoHall, hall, ring)

    def test_arguments_by_their_names(self):
        self.assertEqual(turned(ring=(0, 1, 2), hall=[[1], [2], [0]]), [[2], [0], [1]])


class TestTurnings(unittest.TestCase):
    def check_refused(self, error, hall, other):
        with self.assertRaises(error, msg=(hall, other)) as taken:
            turnings(hall, other)
        self.assertIs(type(taken.exception), error)

    def check(self, hall, other):
        told = turnings(hall, other)
        self.assertIs(type(told), list)
        self.assertLessEqual(len(told), 100, (hall, other))
        now = hall
        for ring in told:
            self.assertIs(type(ring), tuple)
            self.assertTrue(samples.is_ring_of_three(now, ring), (hall, other, told))
            now = samples.after_turning(now, ring)
        self.assertEqual(now, other, (hall, other, told))
        if hall == other:
            self.assertEqual(told, [])

    def check_both_ways(self, hall, other):
        self.check(hall, other)
        self.check(other, hall)

    def check_unlike(self, hall, other):
        self.check_refused(Unlike, hall, other)
        self.check_refused(Unlike, other, hall)

    def test_one_ring_to_turn(self):
        self.assertEqual(len(turnings([[1], [2], [0]], [[2], [0], [1]])), 1)
        self.check_both_ways([[1], [2], [0]], [[2], [0], [1]])
        self.check_both_ways([[1, 3], [2, 3], [0, 3], []], [[2, 3], [0, 3], [1, 3], []])

    def test_a_ring_of_four_to_turn(self):
        # Of 0 with 2 and of 1 with 3 the same one won in both halls; all else differs.
        self.check_both_ways([[1, 2], [2, 3], [3], [0]], [[2, 3], [0, 3], [1], [2]])
        self.check_both_ways([[1], [2, 3], [0, 3], [0]], [[3], [0, 3], [0, 1], [2]])

    def test_the_same_hall_needs_none(self):
        for hall in samples.halls_of_each_size(4):
            self.assertEqual(turnings(hall, hall), [])
            self.assertEqual(turnings(hall, [list(beaten) for beaten in hall]), [])

    def test_all_small_halls_with_the_same_wins(self):
        for many in range(1, 5):
            for halls in halls_by_wins(many):
                for hall in halls:
                    for other in halls:
                        self.check(hall, other)

    def test_halls_of_five_with_the_same_wins(self):
        for halls in halls_by_wins(5):
            for hall in halls:
                for other in halls[::3]:
                    self.check(hall, other)

    def test_halls_of_one_to_twelve_players(self):
        for hall in samples.halls_of_each_size(4):
            for other in samples.like_halls(hall):
                self.check_both_ways(hall, other)

    def test_halls_led_far_away(self):
        for many in range(3, 13):
            for hall in samples.some_halls(many, 4):
                self.check_both_ways(hall, samples.led_on(hall, 60))

    def test_each_pair_the_other_way_round(self):
        for many in range(3, 13, 2):
            wheel = samples.wheel(many)
            self.check_both_ways(wheel, samples.other_way_round(wheel))
            for step in range(2, many):
                if all(many % part or step % part for part in range(2, many + 1)):
                    self.check_both_ways(wheel, samples.renumbered(wheel, step))
        self.check_both_ways(samples.squares_hall(), samples.other_way_round(samples.squares_hall()))

    def test_nearly_all_pairs_of_twelve_the_other_way_round(self):
        # Player 11 beat the same five in all these halls; each pair of the wheel's players differs in the second one.
        wheel = samples.wheel(11)
        hall = [beaten + [11] if player >= 5 else beaten for player, beaten in enumerate(wheel)] + [list(range(5))]
        other = samples.led_on(samples.after_turning(hall, samples.rings_of_three(hall)[-1]), 90)
        self.check_both_ways(hall, other)
        mirrored = samples.other_way_round(wheel)
        second = [beaten + [11] if player >= 5 else beaten for player, beaten in enumerate(mirrored)]
        self.check_both_ways(hall, second + [list(range(5))])
        self.check_both_ways(other, second + [list(range(5))])

    def test_other_wins_are_refused(self):
        for many in range(2, 6):
            halls = samples.all_halls(many)
            for hall in halls[::max(1, len(halls) // 40)]:
                for other in halls[::max(1, len(halls) // 60)]:
                    if wins(hall) != wins(other):
                        self.check_unlike(hall, other)

    def test_the_same_wins_of_other_players_are_refused(self):
        self.check_unlike([[1], []], [[], [0]])
        self.check_unlike([[1, 3], [2, 3], [0, 3], []], [[], [0, 2], [0, 3], [0, 1]])
        for many in range(2, 13):
            self.check_unlike(samples.ladder(many), samples.upward_ladder(many))
            for hall in samples.some_halls(many, 6):
                for other in (samples.swapped(hall, 0, many - 1), samples.swapped(hall, many // 2, many // 2 - 1)):
                    if wins(hall) != wins(other):
                        self.check_unlike(hall, other)

    def test_one_pair_that_differs_is_refused(self):
        for many in range(2, 13):
            for hall in samples.some_halls(many, 3):
                one = next(player for player in range(many) if hall[player])
                other = hall[one][0]
                differing = samples.changed(hall, one, hall[one][1:])
                differing = samples.changed(differing, other, sorted(hall[other] + [one]))
                self.check_unlike(hall, differing)

    def test_not_as_many_players_are_refused(self):
        for many in range(1, 13):
            for other in range(1, 13):
                if many != other:
                    self.check_unlike(samples.ladder(many), samples.upward_ladder(other))
                    self.check_unlike(samples.upward_ladder(many), samples.upward_ladder(other))
                    self.check_unlike(samples.winding(many), samples.winding(other))

    def test_what_is_no_hall_is_refused_in_either_place(self):
        for wrong in samples.no_halls():
            self.check_refused(NoHall, wrong, wrong)
            for hall in ([[]], [[1], [2], [0]], samples.ladder(len(wrong)) if len(wrong) in range(1, 13) else [[1], []],
                         samples.wheel(11)):
                self.check_refused(NoHall, wrong, hall)
                self.check_refused(NoHall, hall, wrong)

    def test_the_same_numbers_of_wins_make_no_hall(self):
        for hall in samples.halls_of_each_size(1):
            for wrong in samples.spoilt(hall)[::17]:
                if wins(wrong) == wins(hall):
                    self.check_refused(NoHall, wrong, hall)
                    self.check_refused(NoHall, hall, wrong)

    def test_arguments_by_their_names(self):
        self.assertEqual(turnings(other=[[]], hall=[[]]), [])


if __name__ == "__main__":
    unittest.main()
