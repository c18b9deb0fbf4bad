"""Halls: which lists are halls, and the wins of a hall."""

from kinghall.errors import NoHall, NoPlayer

MOST_PLAYERS = 12


def is_hall(hall):
    many = len(hall)
    if many < 1 or many > MOST_PLAYERS:
        return False
    for player, beaten in enumerate(hall):
        if not is_beaten_list(beaten, player, many):
            return False
    return one_of_each_two_won(hall)


def is_beaten_list(beaten, player, many):
    # Beginning below nought lets the one comparison refuse negative numbers too.
    before = -1
    for other in beaten:
        if other <= before or other >= many or other == player:
            return False
        before = other
    return True


def one_of_each_two_won(hall):
    for player in range(len(hall)):
        for other in range(player):
            if (other in hall[player]) == (player in hall[other]):
                return False
    return True


def need_hall(hall):
    if not is_hall(hall):
        raise NoHall("this list is no hall")


def is_player(hall, player):
    return player >= 0 and player < len(hall)


def need_player(hall, player):
    if not is_player(hall, player):
        raise NoPlayer("this number is no player of the hall")


def wins_of(hall):
    need_hall(hall)
    return [len(beaten) for beaten in hall]
