import itertools
import unittest

import samples
from kinghall.errors import NoHall, NoPlayer, NoRing
from kinghall.rings import ring_at

FAR_NUMBERS = (13, 14, 24, 100, 10 ** 29 + 7, -3, -4, -12, -10 ** 29 - 7)


def reaches(hall, one, other):
    reached = [one]
    for player in reached:
        reached.extend(number for number in hall[player] if number not in reached)
    return other in reached


def group_size(hall, player):
    players = range(len(hall))
    return sum(1 for other in players if reaches(hall, player, other) and reaches(hall, other, player))


def is_ring(hall, ring):
    if len(ring) < 3 or len(set(ring)) != len(ring):
        return False
    return all(ring[place] in hall[ring[place - 1]] for place in range(len(ring)))


def ring_sizes_by_trying_all(hall, player):
    sizes = set()
    for many in range(3, len(hall) + 1):
        rows = itertools.permutations(range(len(hall)), many)
        if any(row[0] == player and is_ring(hall, row) for row in rows):
            sizes.add(many)
    return sizes


class TestRingAt(unittest.TestCase):
    def check_ring(self, hall, player, many):
        ring = ring_at(hall, player, many)
        self.assertIs(type(ring), list)
        self.assertEqual((len(ring), ring[0]), (many, player), (hall, ring))
        self.assertTrue(set(ring) <= set(range(len(hall))), (hall, ring))
        self.assertTrue(is_ring(hall, ring), (hall, player, ring))

    def check_refused(self, error, hall, player, many):
        with self.assertRaises(error, msg=(hall, player, many)) as taken:
            ring_at(hall, player, many)
        self.assertIs(type(taken.exception), error)

    def check(self, hall):
        for player in range(len(hall)):
            most = group_size(hall, player)
            for many in range(-2, 14):
                if many in range(3, most + 1):
                    self.check_ring(hall, player, many)
                else:
                    self.check_refused(NoRing, hall, player, many)

    def test_rings_of_three_players(self):
        self.assertEqual(ring_at([[1], [2], [0]], 0, 3), [0, 1, 2])
        self.assertEqual(ring_at([[1], [2], [0]], 2, 3), [2, 0, 1])
        self.assertEqual(ring_at([[2], [0], [1]], 1, 3), [1, 0, 2])

    def test_the_one_ring_through_all_of_a_winding_hall(self):
        for many in range(4, 13):
            for player in range(many):
                ring = [(player + step) % many for step in range(many)]
                self.assertEqual(ring_at(samples.winding(many), player, many), ring)

    def test_all_others_beat_or_are_beaten_by_the_whole_ring(self):
        # Players 0, 1, 2 are a ring; 3 beat them all, 4 lost to them all and beat 3.
        hall = [[1, 4], [2, 4], [0, 4], [0, 1, 2], [3]]
        for player in range(5):
            for many in (3, 4, 5):
                self.check_ring(hall, player, many)

    def test_small_halls_by_trying_all(self):
        for many in range(1, 5):
            for hall in samples.all_halls(many):
                for player in range(many):
                    sizes = ring_sizes_by_trying_all(hall, player)
                    for size in range(1, many + 2):
                        if size in sizes:
                            self.check_ring(hall, player, size)
                        else:
                            self.check_refused(NoRing, hall, player, size)

    def test_all_halls_of_five(self):
        for hall in samples.all_halls(5):
            self.check(hall)

    def test_halls_of_one_to_twelve_players(self):
        for hall in samples.halls_of_each_size(20):
            self.check(hall)

    def test_far_numbers_are_refused(self):
        for hall in samples.halls_of_each_size(2):
            for player in range(len(hall)):
                for many in FAR_NUMBERS:
                    self.check_refused(NoRing, hall, player, many)

    def test_whoever_is_alone_has_no_ring(self):
        for hall in samples.halls_of_each_size(2):
            for player in range(len(hall)):
                if group_size(hall, player) == 1:
                    for many in list(range(-3, 14)) + list(FAR_NUMBERS):
                        self.check_refused(NoRing, hall, player, many)

    def test_no_player_is_refused_ahead_of_no_ring(self):
        for hall in samples.halls_of_each_size(2):
            for player in samples.no_players(hall):
                for many in (3, len(hall), len(hall) + 1, 0, 1, 2, -1, 10 ** 29):
                    self.check_refused(NoPlayer, hall, player, many)

    def test_what_is_no_hall_is_refused_ahead_of_all_else(self):
        for hall in samples.no_halls():
            for player in (0, len(hall) - 1, -1, len(hall), 10 ** 29):
                for many in (3, 2, -1, 10 ** 29):
                    self.check_refused(NoHall, hall, player, many)

    def test_arguments_by_their_names(self):
        self.assertEqual(ring_at(many=3, player=1, hall=[[1], [2], [0]]), [1, 2, 0])


if __name__ == "__main__":
    unittest.main()
