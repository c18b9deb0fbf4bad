"""Kings, and shortest ways from one player to another."""

from kinghall.halls import need_hall, need_player


def kings_of(hall):
    need_hall(hall)
    return [player for player in range(len(hall)) if is_king(hall, player)]


def is_king(hall, player):
    for other in range(len(hall)):
        if other != player and not is_within_two(hall, player, other):
            return False
    return True


def is_within_two(hall, player, other):
    return other in hall[player] or any([other in hall[between] for between in hall[player]])


def way_of(hall, one, other):
    need_hall(hall)
    need_player(hall, one)
    need_player(hall, other)
    return ways_from(hall, one).get(other)


def ways_from(hall, one):
    ways = {one: [one]}
    newest = [one]
    # Whoever is reached in a later round is reached by a longer way, so the first stays.
    while newest:
        reached = []
        for player in newest:
            for beaten in hall[player]:
                if beaten not in ways:
                    ways[beaten] = ways[player] + [beaten]
                    reached.append(beaten)
        newest = reached
    return ways
