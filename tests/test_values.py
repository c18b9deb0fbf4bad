"""What is handed in stays as it is, and what is told stands for itself."""

import copy
import unittest

import samples
from kinghall.errors import NoHall
from kinghall.halls import is_hall, wins_of
from kinghall.lines import line_of, lines_many

OF_HALLS = (is_hall, wins_of, line_of, lines_many)
TELLING_LISTS = (wins_of, line_of)


def halls_up_to_nine():
    return [hall for hall in samples.halls_of_each_size(5) if len(hall) <= 9]


def small_no_halls():
    # Far too many players would keep a count that refuses nothing busy for ever.
    return [hall for hall in samples.no_halls()[::5] if len(hall) <= 9]


def answer(ask, hall):
    try:
        return ask(hall)
    except NoHall:
        return "refused"


class TestHandedIn(unittest.TestCase):
    def check_unchanged(self, ask, hall):
        before = copy.deepcopy(hall)
        rows = list(hall)
        answer(ask, hall)
        self.assertEqual(hall, before)
        self.assertEqual([id(row) for row in hall], [id(row) for row in rows])

    def test_halls_are_not_changed(self):
        for ask in OF_HALLS:
            for hall in halls_up_to_nine():
                self.check_unchanged(ask, hall)

    def test_large_halls_are_not_changed(self):
        for ask in (is_hall, wins_of, line_of):
            for hall in samples.some_halls(12, 10):
                self.check_unchanged(ask, hall)

    def test_what_is_no_hall_is_not_changed(self):
        for ask in OF_HALLS:
            for hall in small_no_halls():
                self.check_unchanged(ask, hall)

    def test_a_hall_changed_behind_the_call_changes_no_answer(self):
        for ask in TELLING_LISTS:
            for hall in halls_up_to_nine():
                told = ask(hall)
                kept = list(told)
                for row in hall:
                    row.append(77)
                hall.clear()
                self.assertEqual(told, kept)

    def test_the_same_list_is_asked_anew_when_it_was_changed(self):
        for ask in OF_HALLS:
            for many in range(2, 10):
                halls = samples.some_halls(many, 4) + [samples.ladder(many), samples.ladder(many) + [[]], []]
                handed = []
                for hall in halls:
                    handed[:] = copy.deepcopy(hall)
                    self.assertEqual(answer(ask, handed), answer(ask, copy.deepcopy(hall)))

    def test_rows_changed_in_place_are_seen(self):
        hall = [[1, 2], [2], []]
        self.assertEqual([wins_of(hall), line_of(hall), lines_many(hall)], [[2, 1, 0], [0, 1, 2], 1])
        hall[0].remove(2)
        self.assertEqual([answer(ask, hall) for ask in OF_HALLS], [False, "refused", "refused", "refused"])
        hall[2].append(0)
        self.assertEqual([is_hall(hall), wins_of(hall), lines_many(hall)], [True, [1, 1, 1], 3])


class TestTold(unittest.TestCase):
    def test_a_change_of_what_was_told_changes_nothing_told_later(self):
        for ask in TELLING_LISTS:
            for hall in samples.halls_of_each_size(5):
                before = copy.deepcopy(hall)
                first = ask(hall)
                kept = list(first)
                first[0] = 99
                first.append(98)
                second = ask(hall)
                self.assertIsNot(first, second)
                self.assertEqual(second, kept)
                self.assertEqual(hall, before)

    def test_equal_halls_are_told_lists_of_their_own(self):
        for ask in TELLING_LISTS:
            for many in range(1, 13):
                first = ask(samples.ladder(many))
                first.clear()
                self.assertEqual(len(ask(samples.ladder(many))), many)

    def test_what_is_told_is_no_list_that_was_handed_in(self):
        for ask in TELLING_LISTS:
            for hall in samples.halls_of_each_size(2):
                told = ask(hall)
                self.assertFalse(any(told is row for row in hall + [hall]))


if __name__ == "__main__":
    unittest.main()
