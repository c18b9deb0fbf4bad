"""Lines: all players of a hall in a row in which each won against the next."""

from kinghall.halls import need_hall


def line_of(hall):
    need_hall(hall)
    line = []
    for player in range(len(hall)):
        line.insert(place_in(line, hall[player]), player)
    return line


def place_in(line, beaten):
    # Whoever stands ahead of the first one beaten was not beaten, and so won.
    for place, other in enumerate(line):
        if other in beaten:
            return place
    return len(line)


def lines_many(hall):
    need_hall(hall)
    # Beginnings with the same players and the same last one go on in the same
    # ways, so they are counted together: a key is (players as bits, last one).
    begun = {}
    for player in range(len(hall)):
        begun[(1 << player, player)] = 1
    for step in range(len(hall) - 1):
        begun = one_longer(hall, begun)
    return sum(begun.values())


def one_longer(hall, begun):
    longer = {}
    for key, many in begun.items():
        seen = key[0]
        for player in hall[key[1]]:
            bit = 1 << player
            if (seen & bit) == 0:
                grown = (seen | bit, player)
                longer[grown] = longer.get(grown, 0) + many
    return longer
