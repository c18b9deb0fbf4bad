"""Turnings: rings of three that are turned, and how they lead one hall into another."""

from kinghall.errors import NoRing, Unlike
from kinghall.halls import is_player, need_hall, wins_of


def turned(hall, ring):
    need_hall(hall)
    if not is_ring(hall, ring):
        raise NoRing("these three are no ring of the hall")
    other = [list(beaten) for beaten in hall]
    for place, loser in enumerate(ring):
        winner = ring[place - 1]
        other[winner].remove(loser)
        other[loser].append(winner)
    return [sorted(beaten) for beaten in other]


def is_ring(hall, ring):
    # A number below nought would count from the hall's end.
    if not all([is_player(hall, player) for player in ring]):
        return False
    return all([ring[place] in hall[ring[place - 1]] for place in range(len(ring))])


def turnings(hall, other):
    # Asked for its wins, whatever is no hall is refused, in either place.
    if wins_of(hall) != wins_of(other):
        raise Unlike("these two halls have not the same wins")
    told = []
    now = hall
    # At most 66 pairs differ, and each ring sets its own right by fewer threes than it
    # has pairs: so never more than 100 are told.
    while now != other:
        threes = threes_for(now, ring_to_turn(now, other))
        for three in threes:
            now = turned(now, three)
        told.extend(threes)
    return told


def ring_to_turn(hall, other):
    # Each has as many wins to lose as to gain, so whoever is to gain one has one to
    # lose: from player to player the walk goes on until it meets itself.
    player = [one for one in range(len(hall)) if to_lose(hall, other, one)][0]
    walk = []
    while player not in walk:
        walk.append(player)
        player = to_lose(hall, other, player)[0]
    return walk[walk.index(player):]


def to_lose(hall, other, player):
    return [beaten for beaten in hall[player] if beaten not in other[player]]


def threes_for(hall, ring):
    # The whole ring is turned by threes of its first and each two neighbours. The first
    # and one further on stand in two threes, and are turned there and back: who won
    # of these two says which of the threes is a ring by now, and so is ahead.
    first = ring[0]
    threes = [(first, ring[-2], ring[-1])]
    for place in range(len(ring) - 2, 1, -1):
        three = (first, ring[place - 1], ring[place])
        if first in hall[ring[place]]:
            threes.insert(0, three)
        else:
            threes.append(three)
    return threes
