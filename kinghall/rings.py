"""Rings: three players or more, each of whom won against the next, and the last against the first."""

from kinghall.errors import NoRing
from kinghall.groups import group_with
from kinghall.halls import need_hall, need_player

FEWEST_IN_RING = 3


def ring_at(hall, player, many):
    need_hall(hall)
    need_player(hall, player)
    group = group_with(hall, player)
    if many < FEWEST_IN_RING or many > len(group):
        raise NoRing("no ring of so many players goes through this player")
    ring = ring_of_three(hall, player, group)
    while len(ring) < many:
        ring = one_larger(hall, ring, group)
    return ring


def ring_of_three(hall, player, seconds):
    # Asked only where some of the seconds lost to the player and a way leads on from
    # them to those who beat the player: somewhere that way goes over in one step.
    for second in seconds:
        thirds = [third for third in hall[second] if player in hall[third]]
        if second in hall[player] and thirds:
            return [player, second, thirds[0]]
    return None


def one_larger(hall, ring, group):
    others = [player for player in group if player not in ring]
    for other in others:
        place = place_in_ring(hall, ring, other)
        if place is not None:
            return ring[:place] + [other] + ring[place:]
    # Each of the others won against the whole ring or lost to the whole of it. So a
    # loser and then a winner fit in behind any one of the ring, ahead of any other.
    return ring_of_three(hall, ring[0], others) + ring[2:]


def place_in_ring(hall, ring, player):
    circle = ring + ring[:1]
    for place in range(1, len(circle)):
        if player in hall[circle[place - 1]] and circle[place] in hall[player]:
            return place
    return None
