"""Notes: halls written as texts, and read again."""

from kinghall.errors import NoNote
from kinghall.halls import MOST_PLAYERS, need_hall


def shown(hall):
    need_hall(hall)
    signs = [sign_for(hall, pair) for pair in pairs_of(len(hall))]
    return beginning_for(len(hall)) + "".join(signs)


def beginning_for(many):
    return f"{many}:"


def pairs_of(many):
    pairs = []
    for one in range(many):
        pairs.extend([(one, other) for other in range(one + 1, many)])
    return pairs


def sign_for(hall, pair):
    return ">" if pair[1] in hall[pair[0]] else "<"


def read(text):
    # No beginning begins another one, so at most one of them can fit.
    for many in range(1, MOST_PLAYERS + 1):
        beginning = beginning_for(many)
        if text.startswith(beginning):
            return hall_of(many, text[len(beginning):])
    raise NoNote("this text does not begin with a number of players and a colon")


def hall_of(many, signs):
    pairs = pairs_of(many)
    if len(signs) != len(pairs) or signs.count(">") + signs.count("<") != len(signs):
        raise NoNote("behind the colon stands not one sign, > or <, for each two players")
    hall = [[] for player in range(many)]
    for pair, sign in zip(pairs, signs):
        if sign == ">":
            hall[pair[0]].append(pair[1])
        else:
            hall[pair[1]].append(pair[0])
    return [sorted(beaten) for beaten in hall]
