"""Groups: players from each of whom a way leads to each other one."""

from kinghall.halls import need_hall


def groups_of(hall):
    need_hall(hall)
    groups = []
    group = []
    # How often one who is still to come won against one who has come already: an
    # earlier group has more wins than a later one, so at nought a group has ended.
    against = 0
    for place, player in enumerate(by_falling_wins(hall)):
        group.append(player)
        against += len(hall) - 1 - place - len(hall[player])
        if against == 0:
            groups.append(sorted(group))
            group = []
    return groups


def by_falling_wins(hall):
    return sorted(range(len(hall)), key=lambda player: -len(hall[player]))


def group_with(hall, player):
    return [group for group in groups_of(hall) if player in group][0]
