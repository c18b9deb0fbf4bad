"""Rows of wins: which of them there can be, and halls that have them."""

from kinghall.errors import NoRow
from kinghall.halls import MOST_PLAYERS


def can_be(row):
    many = len(row)
    if many < 1 or many > MOST_PLAYERS:
        return False
    together = 0
    for place, wins in enumerate(sorted(row)):
        together += wins
        if together < meetings_of(place + 1):
            return False
    return together == meetings_of(many)


def meetings_of(many):
    return many * (many - 1) // 2


def made(row):
    if not can_be(row):
        raise NoRow("no hall has these wins")
    hall = [[] for player in row]
    missing = list(row)
    # Where there is a hall with the missing wins, there is one in which this player won
    # against those who miss the fewest. So what the others miss then can be as well.
    for player in range(len(row)):
        wins = missing[player]
        behind = by_rising(missing, player + 1)
        hall[player].extend(behind[:wins])
        for other in behind[wins:]:
            hall[other].append(player)
            missing[other] -= 1
    return [sorted(beaten) for beaten in hall]


def by_rising(missing, first):
    return sorted(range(first, len(missing)), key=lambda player: missing[player])
