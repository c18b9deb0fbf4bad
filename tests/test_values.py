"""What is handed in stays as it is, and what is told stands for itself."""

import copy
import unittest

import samples
from kinghall.errors import HallError
from kinghall.groups import groups_of
from kinghall.halls import is_hall, wins_of
from kinghall.kings import kings_of, way_of
from kinghall.lines import line_of, lines_many
from kinghall.rings import ring_at

OF_ONE_HALL = (is_hall, wins_of, line_of, lines_many, groups_of, kings_of)


def calls(hall):
    """What may be asked of the hall, or of what is none: functions, each with what is handed in beside the hall."""
    several = [(ask, ()) for ask in OF_ONE_HALL]
    numbers = (-1, 0, len(hall) // 2, len(hall) - 1, len(hall))
    for player in numbers:
        several.extend((ring_at, (player, many)) for many in (2, 3, 4, len(hall)))
        several.extend((way_of, (player, other)) for other in numbers)
    # A line is counted in halls of at most nine players.
    return [call for call in several if len(hall) <= 9 or call[0] is not lines_many]


def answer(ask, hall, beside):
    try:
        return ask(hall, *beside)
    except HallError as refusal:
        return type(refusal).__name__


def told_lists(hall):
    """The calls that are answered by a list."""
    return [call for call in calls(hall) if isinstance(answer(call[0], hall, call[1]), list)]


def lists_in(told):
    return [told] + [part for part in told if isinstance(part, list)]


def spoil(told):
    for part in lists_in(told):
        part[0] = 99
        part.append(98)


class TestHandedIn(unittest.TestCase):
    def check_unchanged(self, hall):
        for ask, beside in calls(hall):
            before = copy.deepcopy(hall)
            rows = list(hall)
            answer(ask, hall, beside)
            self.assertEqual(hall, before, ask)
            self.assertEqual([id(row) for row in hall], [id(row) for row in rows], ask)

    def test_halls_are_not_changed(self):
        for hall in samples.halls_of_each_size(5):
            self.check_unchanged(hall)

    def test_what_is_no_hall_is_not_changed(self):
        # Far too many players would keep a count that refuses nothing busy for ever.
        for hall in samples.no_halls()[::5]:
            if len(hall) <= 9:
                self.check_unchanged(hall)

    def test_a_hall_changed_behind_the_call_changes_no_answer(self):
        for hall in samples.halls_of_each_size(5):
            for ask, beside in told_lists(hall):
                handed = copy.deepcopy(hall)
                told = ask(handed, *beside)
                kept = copy.deepcopy(told)
                for row in handed:
                    row.append(77)
                handed.clear()
                self.assertEqual(told, kept, ask)

    def test_the_same_list_is_asked_anew_when_it_was_changed(self):
        for many in range(2, 10):
            halls = samples.some_halls(many, 4) + [samples.ladder(many), samples.ladder(many) + [[]], []]
            for ask, beside in calls(samples.ladder(many)):
                handed = []
                for hall in halls:
                    handed[:] = copy.deepcopy(hall)
                    self.assertEqual(answer(ask, handed, beside), answer(ask, copy.deepcopy(hall), beside), ask)

    def test_rows_changed_in_place_are_seen(self):
        hall = [[1, 2], [2], []]
        asked = [(wins_of, ()), (lines_many, ()), (groups_of, ()), (kings_of, ()), (ring_at, (2, 3)), (way_of, (2, 1))]
        ladder_told = [[2, 1, 0], 1, [[0], [1], [2]], [0], "NoRing", None]
        ring_told = [[1, 1, 1], 3, [[0, 1, 2]], [0, 1, 2], [2, 0, 1], [2, 0, 1]]
        self.assertEqual([answer(ask, hall, beside) for ask, beside in asked], ladder_told)
        self.assertEqual((is_hall(hall), line_of(hall)), (True, [0, 1, 2]))
        hall[0].remove(2)
        self.assertEqual([answer(ask, hall, beside) for ask, beside in asked], ["NoHall"] * len(asked))
        self.assertEqual((is_hall(hall), answer(line_of, hall, ())), (False, "NoHall"))
        hall[2].append(0)
        self.assertEqual([answer(ask, hall, beside) for ask, beside in asked], ring_told)
        self.assertEqual(is_hall(hall), True)


class TestTold(unittest.TestCase):
    def test_every_function_that_tells_lists_is_asked(self):
        told = {ask for hall in samples.halls_of_each_size(1) for ask, beside in told_lists(hall)}
        self.assertEqual(told, {wins_of, line_of, groups_of, kings_of, ring_at, way_of})

    def test_a_change_of_what_was_told_changes_nothing_told_later(self):
        for hall in samples.halls_of_each_size(5):
            before = copy.deepcopy(hall)
            for ask, beside in told_lists(hall):
                first = ask(hall, *beside)
                kept = copy.deepcopy(first)
                spoil(first)
                second = ask(hall, *beside)
                self.assertIsNot(first, second, ask)
                self.assertEqual(second, kept, ask)
                self.assertEqual(hall, before, ask)

    def test_equal_halls_are_told_lists_of_their_own(self):
        for many in range(1, 13):
            for make in (samples.ladder, samples.winding):
                for ask, beside in told_lists(make(many)):
                    first = ask(make(many), *beside)
                    kept = copy.deepcopy(first)
                    spoil(first)
                    self.assertEqual(ask(make(many), *beside), kept, ask)

    def test_a_list_told_by_one_call_is_told_by_no_other(self):
        for hall in samples.halls_of_each_size(2):
            told = [ask(hall, *beside) for ask, beside in told_lists(hall)]
            lists = [part for one in told for part in lists_in(one)]
            self.assertEqual(len({id(part) for part in lists}), len(lists))

    def test_what_is_told_is_no_list_that_was_handed_in(self):
        for hall in samples.halls_of_each_size(2):
            handed = {id(row) for row in hall + [hall]}
            for ask, beside in told_lists(hall):
                for part in lists_in(ask(hall, *beside)):
                    self.assertNotIn(id(part), handed, ask)


if __name__ == "__main__":
    unittest.main()
