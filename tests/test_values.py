"""What is handed in stays as it is, and what is told stands for itself."""

import copy
import unittest

import samples
from kinghall.errors import HallError
from kinghall.groups import groups_of
from kinghall.halls import is_hall, wins_of
from kinghall.kings import kings_of, way_of
from kinghall.lines import line_of, lines_many
from kinghall.notes import read, shown
from kinghall.rings import ring_at
from kinghall.rows import can_be, made
from kinghall.turnings import turned, turnings

OF_ONE_HALL = (is_hall, wins_of, line_of, lines_many, groups_of, kings_of, shown)


def calls(hall):
    """What may be asked at the hall, or at what is none: functions, each with a tuple of what is handed in."""
    several = [(ask, (hall,)) for ask in OF_ONE_HALL]
    numbers = (-1, 0, len(hall) // 2, len(hall) - 1, len(hall))
    for player in numbers:
        several.extend((ring_at, (hall, player, many)) for many in (2, 3, 4, len(hall)))
        several.extend((way_of, (hall, player, other)) for other in numbers)
    several.extend(turning_calls(hall))
    several.extend(row_calls(hall))
    # A line is counted in halls of at most nine players.
    return [call for call in several if len(hall) <= 9 or call[0] is not lines_many]


def turning_calls(hall):
    several = [(turned, (hall, ring)) for ring in ((0, 1, 2), (0, 2, 1), (0, 0, -1))]
    others = [hall, samples.upward_ladder(len(hall)), [[], []]]
    if is_hall(hall):
        several.extend((turned, (hall, ring)) for ring in samples.rings_of_three(hall)[-2:])
        others.extend(samples.like_halls(hall)[:4])
    for other in others:
        several.append((turnings, (hall, other)))
        several.append((turnings, (other, hall)))
    return several


def row_calls(hall):
    row = [len(beaten) for beaten in hall]
    rows = [row, row[::-1], row + [len(row)], row[1:], [0] + row]
    several = [(ask, (other,)) for ask in (can_be, made) for other in rows]
    return several + [(read, (text,)) for text in (samples.note_of(hall), samples.note_of(hall) + "<")]


def answer(ask, given):
    try:
        return ask(*given)
    except HallError as refusal:
        return type(refusal).__name__


def told_lists(hall):
    """The calls that are answered by a list."""
    return [call for call in calls(hall) if isinstance(answer(call[0], call[1]), list)]


def lists_in(told):
    return [told] + [part for part in told if isinstance(part, list)]


def handed_lists(given):
    return [part for one in given if isinstance(one, list) for part in lists_in(one)]


def spoil(told):
    for part in lists_in(told):
        part[:1] = [99]
        part.append(98)


def refill(lists, given):
    """What is given, but in the same lists as before."""
    handed = []
    for one, kept in zip(given, lists):
        if isinstance(one, list):
            kept[:] = copy.deepcopy(one)
            handed.append(kept)
        else:
            handed.append(one)
    return handed


class TestHandedIn(unittest.TestCase):
    def check_unchanged(self, hall):
        for ask, given in calls(hall):
            before = copy.deepcopy(given)
            lists = [id(part) for part in handed_lists(given)]
            answer(ask, given)
            self.assertEqual(given, before, ask)
            self.assertEqual([id(part) for part in handed_lists(given)], lists, ask)

    def test_what_is_handed_in_is_not_changed(self):
        for hall in samples.halls_of_each_size(5):
            self.check_unchanged(hall)

    def test_what_is_no_hall_is_not_changed(self):
        # Far too many players would keep a count that refuses nothing busy for ever.
        for hall in samples.no_halls()[::5]:
            if len(hall) <= 9:
                self.check_unchanged(hall)

    def test_a_change_behind_the_call_changes_no_answer(self):
        for hall in samples.halls_of_each_size(5):
            for ask, given in told_lists(hall):
                handed = copy.deepcopy(given)
                told = ask(*handed)
                kept = copy.deepcopy(told)
                for part in handed_lists(handed):
                    part.append(77)
                for part in handed_lists(handed):
                    part.clear()
                self.assertEqual(told, kept, ask)

    def test_the_same_lists_are_asked_anew_when_they_were_changed(self):
        for many in range(2, 10):
            lists = {}
            halls = samples.some_halls(many, 4) + [samples.ladder(many), samples.ladder(many) + [[]], []]
            for hall in halls:
                for ask, given in calls(hall):
                    handed = refill(lists.setdefault(ask, [[] for one in given]), given)
                    self.assertEqual(answer(ask, handed), answer(ask, copy.deepcopy(given)), ask)

    def test_lists_within_changed_in_place_are_seen(self):
        hall = [[1, 2], [2], []]
        asked = [(wins_of, (hall,)), (lines_many, (hall,)), (groups_of, (hall,)), (kings_of, (hall,)),
                 (ring_at, (hall, 2, 3)), (way_of, (hall, 2, 1)), (line_of, (hall,)), (shown, (hall,)),
                 (turned, (hall, (0, 1, 2))), (turnings, (hall, [[1], [2], [0]])), (turnings, ([[1, 2], [2], []], hall))]
        ladder_told = [[2, 1, 0], 1, [[0], [1], [2]], [0], "NoRing", None, [0, 1, 2], "3:>>>", "NoRing", "Unlike", []]
        ring_told = [[1, 1, 1], 3, [[0, 1, 2]], [0, 1, 2], [2, 0, 1], [2, 0, 1], None, "3:><>", [[2], [0], [1]], [],
                     "Unlike"]
        self.assertEqual([answer(ask, given) for ask, given in asked], ladder_told)
        self.assertIs(is_hall(hall), True)
        hall[0].remove(2)
        self.assertEqual([answer(ask, given) for ask, given in asked], ["NoHall"] * len(asked))
        self.assertIs(is_hall(hall), False)
        hall[2].append(0)
        told = [answer(ask, given) for ask, given in asked]
        # Of the three lines of a ring any one may be told.
        self.assertIn(told[6], ([0, 1, 2], [1, 2, 0], [2, 0, 1]))
        told[6] = None
        self.assertEqual(told, ring_told)
        self.assertIs(is_hall(hall), True)

    def test_a_row_changed_in_place_is_seen(self):
        row = [0, 1, 2]
        self.assertEqual((can_be(row), made(row)), (True, [[], [0], [0, 1]]))
        row[0] = 1
        self.assertEqual((can_be(row), answer(made, (row,))), (False, "NoRow"))
        row[1] = 0
        self.assertEqual((can_be(row), made(row)), (True, [[1], [], [0, 1]]))


class TestTold(unittest.TestCase):
    def test_every_function_that_tells_lists_is_asked(self):
        told = {ask for hall in samples.halls_of_each_size(1) for ask, given in told_lists(hall)}
        self.assertEqual(told, {wins_of, line_of, groups_of, kings_of, ring_at, way_of, made, turned, turnings, read})

    def test_a_change_of_what_was_told_changes_nothing_told_later(self):
        for hall in samples.halls_of_each_size(5):
            for ask, given in told_lists(hall):
                before = copy.deepcopy(given)
                first = ask(*given)
                kept = copy.deepcopy(first)
                spoil(first)
                second = ask(*given)
                self.assertIsNot(first, second, ask)
                self.assertEqual(second, kept, ask)
                self.assertEqual(given, before, ask)

    def test_equal_halls_are_told_lists_of_their_own(self):
        for many in range(1, 13):
            for make in (samples.ladder, samples.winding):
                for ask, given in told_lists(make(many)):
                    first = ask(*copy.deepcopy(given))
                    kept = copy.deepcopy(first)
                    spoil(first)
                    self.assertEqual(ask(*copy.deepcopy(given)), kept, ask)

    def test_a_list_told_by_one_call_is_told_by_no_other(self):
        for hall in samples.halls_of_each_size(2):
            told = [ask(*given) for ask, given in told_lists(hall) * 2]
            lists = [part for one in told for part in lists_in(one)]
            self.assertEqual(len({id(part) for part in lists}), len(lists))

    def test_what_is_told_is_no_list_that_was_handed_in(self):
        for hall in samples.halls_of_each_size(2):
            for ask, given in told_lists(hall):
                handed = {id(part) for part in handed_lists(given)}
                for part in lists_in(ask(*given)):
                    self.assertNotIn(id(part), handed, ask)


if __name__ == "__main__":
    unittest.main()
