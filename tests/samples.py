"""Halls, and lists that are none, for the tests."""

import copy


def hall_of_bits(many, bits):
    """The hall in which, pair by pair, a set bit lets the lesser number win."""
    hall = [[] for player in range(many)]
    for one in range(many):
        for other in range(one + 1, many):
            if bits & 1:
                hall[one].append(other)
            else:
                hall[other].append(one)
            bits >>= 1
    return [sorted(beaten) for beaten in hall]


def pairs_many(many):
    return many * (many - 1) // 2


def all_halls(many):
    return [hall_of_bits(many, bits) for bits in range(2 ** pairs_many(many))]


def some_halls(many, count):
    """Mixed halls, the same ones at each run."""
    halls = []
    state = 88172645463325252 + many
    for turn in range(count):
        bits = 0
        for pair in range(pairs_many(many)):
            state = (state * 6364136223846793005 + 1442695040888963407) % 2 ** 64
            bits = bits * 2 + (state >> 63)
        halls.append(hall_of_bits(many, bits))
    return halls


def ladder(many):
    """Whoever has the lesser number won."""
    return [list(range(player + 1, many)) for player in range(many)]


def upward_ladder(many):
    """Whoever has the greater number won."""
    return [list(range(player)) for player in range(many)]


def wheel(many):
    """For an odd number: each won against the half of them that follows it."""
    half = many // 2
    return [sorted((player + step) % many for step in range(1, half + 1)) for player in range(many)]


def squares_hall():
    """Seven players; each won against those a square ahead of it."""
    return [sorted((player + step) % 7 for step in (1, 2, 4)) for player in range(7)]


def winding(many):
    """Whoever has the greater number won, but each won against the one that follows it."""
    hall = [[other for other in range(player - 1)] for player in range(many)]
    for player in range(many - 1):
        hall[player].append(player + 1)
    return hall


def stacked(halls):
    """One hall of several; every player of an earlier one won against every player of a later one."""
    many = sum(len(hall) for hall in halls)
    together = []
    for hall in halls:
        start = len(together)
        behind = list(range(start + len(hall), many))
        together.extend([start + other for other in beaten] + behind for beaten in hall)
    return together


def renumbered(hall, step):
    """The same hall under other numbers; step and the number of players have no common divisor."""
    many = len(hall)
    other = [[] for player in range(many)]
    for player, beaten in enumerate(hall):
        other[player * step % many] = sorted(number * step % many for number in beaten)
    return other


def halls_of_several_groups():
    halls = []
    for sizes in ((1, 3), (3, 1), (3, 3), (4, 1, 4), (5, 6), (1, 11), (11, 1), (3, 1, 1, 5), (4, 4, 4), (1, 5, 1, 5),
                  (3, 3, 3, 3), (1, 1, 3, 1, 1, 4, 1)):
        hall = stacked([winding(size) for size in sizes])
        halls.append(hall)
        halls.append(renumbered(hall, len(hall) - 1))
        for step in (5, 7):
            if len(hall) % step:
                halls.append(renumbered(hall, step))
    return halls


def named_halls():
    halls = []
    for many in range(1, 13):
        halls.append(ladder(many))
        halls.append(upward_ladder(many))
        if many % 2 == 1:
            halls.append(wheel(many))
    halls.append(squares_hall())
    return halls


def halls_of_each_size(count):
    halls = named_halls() + halls_of_several_groups() + [winding(many) for many in range(1, 13)]
    for many in range(1, 13):
        halls.extend(some_halls(many, count))
    return halls


def other_way_round(hall):
    """In each pair the other one won."""
    players = range(len(hall))
    return [[other for other in players if other != player and other not in hall[player]] for player in players]


def swapped(hall, one, other):
    """The same hall, but the two players have each other's number."""
    numbers = list(range(len(hall)))
    numbers[one], numbers[other] = other, one
    return [sorted(numbers[beaten] for beaten in hall[numbers[player]]) for player in range(len(hall))]


def is_ring_of_three(hall, three):
    if len(three) != 3 or any(player not in range(len(hall)) for player in three):
        return False
    return all(three[place] in hall[three[place - 1]] for place in range(3))


def rings_of_three(hall):
    """Each ring of three once, with its least player ahead."""
    threes = [three for one in range(len(hall)) for second in range(one + 1, len(hall))
              for third in range(second + 1, len(hall)) for three in ((one, second, third), (one, third, second))]
    return [three for three in threes if is_ring_of_three(hall, three)]


def after_turning(hall, three):
    other = [list(beaten) for beaten in hall]
    for place in range(3):
        other[three[place - 1]].remove(three[place])
        other[three[place]].append(three[place - 1])
    return [sorted(beaten) for beaten in other]


def led_on(hall, steps):
    """Another hall with the same wins, or the same one where it has no ring."""
    for step in range(steps):
        rings = rings_of_three(hall)
        if rings:
            hall = after_turning(hall, rings[(step * step + 5 * step + 3) * 7 % len(rings)])
    return hall


def like_halls(hall):
    """Halls with the same wins as this one."""
    halls = [copy.deepcopy(hall)] + [led_on(hall, steps) for steps in (1, 2, 7)]
    wins = [len(beaten) for beaten in hall]
    for one in range(len(hall)):
        for other in range(one):
            if wins[one] == wins[other]:
                halls.append(swapped(hall, one, other))
    mirrored = other_way_round(hall)
    if [len(beaten) for beaten in mirrored] == wins:
        halls.append(mirrored)
    # Numbered from behind, losses can stand in the places of as many wins.
    from_behind = [sorted(len(hall) - 1 - other for other in beaten) for beaten in mirrored[::-1]]
    if [len(beaten) for beaten in from_behind] == wins:
        halls.append(from_behind)
    return halls


def note_of(hall):
    """The hall as a text, by the sentences of the document."""
    text = str(len(hall)) + ":"
    for one in range(len(hall)):
        for other in range(one + 1, len(hall)):
            text += ">" if other in hall[one] else "<"
    return text


def changed(hall, player, beaten):
    other = copy.deepcopy(hall)
    other[player] = list(beaten)
    return other


def spoilt_numbers(hall, player):
    """A wrong number stands in the place of one of the player's list."""
    many = len(hall)
    lists = []
    for place, beaten in enumerate(hall[player]):
        for wrong in (-1, beaten - many, many, beaten + many, 10 ** 30, -10 ** 30, player):
            lists.append(changed(hall, player, hall[player][:place] + [wrong] + hall[player][place + 1:]))
    return lists


def spoilt_ends(hall, player):
    """A wrong number is added where the list goes on rising."""
    many = len(hall)
    beaten = hall[player]
    rows = [[-1] + beaten, [-many] + beaten, [-10 ** 30] + beaten, beaten + [many], beaten + [many + 1],
            beaten + [10 ** 30], sorted(beaten + [player])]
    return [changed(hall, player, row) for row in rows]


def spoilt_order(hall, player):
    beaten = hall[player]
    rows = []
    if len(beaten) > 1:
        rows.append(beaten[::-1])
        rows.append(beaten[1:] + beaten[:1])
        rows.append(beaten[:-2] + [beaten[-1], beaten[-2]])
    for place in range(len(beaten)):
        rows.append(beaten[:place + 1] + beaten[place:])
    if beaten:
        rows.append(beaten + beaten)
    return [changed(hall, player, row) for row in rows]


def spoilt_pairs(hall, player):
    """Of one pair none won, or both."""
    lists = []
    for other in range(len(hall)):
        if other in hall[player]:
            lists.append(changed(hall, player, [number for number in hall[player] if number != other]))
            lists.append(changed(hall, other, sorted(hall[other] + [player])))
    return lists


def spoilt(hall):
    lists = []
    for player in range(len(hall)):
        lists.extend(spoilt_numbers(hall, player))
        lists.extend(spoilt_ends(hall, player))
        lists.extend(spoilt_order(hall, player))
        lists.extend(spoilt_pairs(hall, player))
    return lists


def wrong_sizes():
    lists = [[]]
    for many in (13, 14, 15, 40):
        lists.append(ladder(many))
        lists.append(upward_ladder(many))
        lists.append([[] for player in range(many)])
    lists.append(wheel(13))
    for many in range(3, 13):
        lists.append(ladder(many)[:-1])
        lists.append(ladder(many)[1:])
        lists.append(upward_ladder(many)[:-1] + [[]])
        lists.append(ladder(many) + [[]])
    return lists


def no_players(hall):
    """Whole numbers that are no players of the hall."""
    many = len(hall)
    return [-1, -2, -many, -many - 1, -10 ** 29 - 7, many, many + 1, 2 * many, 12, 10 ** 29 + 7, 123456789 ** 4]


def no_halls():
    """Lists of lists of whole numbers that are no halls."""
    lists = wrong_sizes()
    for hall in named_halls():
        lists.extend(spoilt(hall))
    for many in (3, 5, 8, 12):
        for hall in some_halls(many, 2):
            lists.extend(spoilt(hall))
    return lists
