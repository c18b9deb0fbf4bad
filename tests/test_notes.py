import itertools
import re
import unittest

import samples
from kinghall.errors import NoHall, NoNote
from kinghall.notes import read, shown

SIGNS = "\t\n" + "".join(chr(number) for number in range(32, 127) if chr(number) != "%")


def hall_of_note(text):
    """The hall that the text writes, or None."""
    parts = re.fullmatch("([1-9][0-9]*):([<>]*)", text)
    if parts is None or int(parts.group(1)) > 12 or len(parts.group(2)) != samples.pairs_many(int(parts.group(1))):
        return None
    bits = sum(1 << place for place, sign in enumerate(parts.group(2)) if sign == ">")
    return samples.hall_of_bits(int(parts.group(1)), bits)


def some_notes():
    """Notes of halls of 1 to 12 players."""
    halls = [samples.hall_of_bits(1, 0), [[1], []], [[], [0]], [[1], [2], [0]], samples.squares_hall()]
    for many in range(1, 13):
        halls.extend([samples.ladder(many), samples.upward_ladder(many)] + samples.some_halls(many, 2))
    return [samples.note_of(hall) for hall in halls]


class TestShown(unittest.TestCase):
    def test_written_notes(self):
        self.assertEqual(shown([[]]), "1:")
        self.assertEqual(shown([[1], []]), "2:>")
        self.assertEqual(shown([[], [0]]), "2:<")
        self.assertEqual(shown([[1], [2], [0]]), "3:><>")
        self.assertEqual(shown([[2], [0], [1]]), "3:<><")
        self.assertEqual(shown([[1, 3], [2, 3], [0, 3], []]), "4:><>>>>")
        self.assertEqual(shown([[1], [3], [0, 1, 3], [0]]), "4:><<<>>")

    def test_ladders(self):
        for many in range(1, 13):
            self.assertEqual(shown(samples.ladder(many)), f"{many}:" + ">" * samples.pairs_many(many))
            self.assertEqual(shown(samples.upward_ladder(many)), f"{many}:" + "<" * samples.pairs_many(many))

    def test_one_pair_alone(self):
        for many in range(2, 13):
            for place in range(samples.pairs_many(many)):
                signs = "<" * place + ">" + "<" * (samples.pairs_many(many) - place - 1)
                self.assertEqual(shown(samples.hall_of_bits(many, 1 << place)), f"{many}:{signs}")

    def test_all_small_halls(self):
        for many in range(1, 6):
            told = {shown(hall) for hall in samples.all_halls(many)}
            signs = itertools.product("<>", repeat=samples.pairs_many(many))
            self.assertEqual(told, {f"{many}:" + "".join(row) for row in signs})

    def test_halls_of_one_to_twelve_players(self):
        for hall in samples.halls_of_each_size(60):
            text = shown(hall)
            self.assertIs(type(text), str)
            self.assertEqual(text, samples.note_of(hall))
            self.assertEqual(hall_of_note(text), hall)

    def test_what_is_no_hall_is_refused(self):
        for hall in samples.no_halls():
            with self.assertRaises(NoHall, msg=hall) as taken:
                shown(hall)
            self.assertIs(type(taken.exception), NoHall)

    def test_argument_by_its_name(self):
        self.assertEqual(shown(hall=[[]]), "1:")


class TestRead(unittest.TestCase):
    def check_refused(self, text):
        with self.assertRaises(NoNote, msg=repr(text)) as taken:
            read(text)
        self.assertIs(type(taken.exception), NoNote)

    def check(self, text):
        hall = hall_of_note(text)
        if hall is None:
            self.check_refused(text)
        else:
            self.assertEqual(read(text), hall, text)

    def test_written_notes(self):
        self.assertEqual(read("1:"), [[]])
        self.assertEqual(read("2:>"), [[1], []])
        self.assertEqual(read("2:<"), [[], [0]])
        self.assertEqual(read("3:><>"), [[1], [2], [0]])
        self.assertEqual(read("4:><<<>>"), [[1], [3], [0, 1, 3], [0]])

    def test_what_is_written_is_read_to_the_same_hall(self):
        for hall in samples.halls_of_each_size(60):
            told = read(shown(hall))
            self.assertEqual(told, hall)
            self.assertEqual([type(told)] + [type(beaten) for beaten in told], [list] * (len(hall) + 1))
        for many in range(1, 6):
            for hall in samples.all_halls(many):
                self.assertEqual(read(shown(hall)), hall)

    def test_notes_by_the_sentences_alone(self):
        for many in range(1, 13):
            for hall in samples.some_halls(many, 20):
                self.assertEqual(read(samples.note_of(hall)), hall)

    def test_just_the_notes_among_all_short_texts(self):
        for length in range(6):
            for signs in itertools.product("0123:<> ", repeat=length):
                self.check("".join(signs))

    def test_an_empty_text_and_blanks_alone(self):
        for text in ("", " ", "\n", "\t", ":", "::", "<", ">", ">:", "0", "1", "12", "1 ", "~", "a", "1:1:", " :", ":1"):
            self.check_refused(text)

    def test_no_colon(self):
        for text in some_notes():
            for other in ("", " ", ";", ".", "=", "::", ": ", " :", "<", ">", "\n", "0"):
                self.check_refused(text.replace(":", other))

    def test_no_number(self):
        for text in some_notes():
            signs = text[text.index(":"):]
            for begin in ("", " ", "a", "-", "+", "x", "one", "<", ">", ":", "\n", "1.", "1.0", "1e0", "0x1", "1_0", "I"):
                self.check_refused(begin + signs)

    def test_a_nought_ahead_of_the_number(self):
        for text in some_notes():
            for begin in ("0", "00", "0" * 20):
                self.check_refused(begin + text)

    def test_a_number_below_one_or_beyond_twelve(self):
        for number in ("0", "00", "-0", "-1", "-2", "-12", "13", "14", "20", "21", "99", "100", "112", "9" * 60):
            for many in (0, 1, 3, 6, 66, 78):
                self.check_refused((number + ":" + ">" * many)[:100])
                self.check_refused((number + ":" + "<" * many)[:100])
        self.check_refused("13:" + ">" * samples.pairs_many(13))
        self.check_refused("14:" + "<" * samples.pairs_many(14))

    def test_the_number_of_other_players(self):
        for text in some_notes():
            signs = text[text.index(":"):]
            for many in range(1, 13):
                if samples.pairs_many(many) != len(signs) - 1:
                    self.check_refused(str(many) + signs)

    def test_a_sign_too_few_or_too_many(self):
        for text in some_notes():
            for other in (text + ">", text + "<", text + "><", text.replace(":", ":>"), text.replace(":", ":<"),
                          text + text[-1] * 5, text[:-1], text[:-2], text[:-3]):
                self.check_refused(other)

    def test_every_sign_in_the_place_of_one(self):
        for text in some_notes()[::3]:
            places = [0, 1, 2, 3, len(text) // 2, len(text) - 2, len(text) - 1]
            for place in sorted({place for place in places if place in range(len(text))}):
                for sign in SIGNS:
                    self.check(text[:place] + sign + text[place + 1:])

    def test_every_sign_put_in(self):
        for text in some_notes()[::3]:
            for place in sorted({0, 1, 2, 3, len(text) // 2, len(text) - 1, len(text)}):
                for sign in SIGNS:
                    self.check(text[:place] + sign + text[place:])

    def test_every_sign_left_out(self):
        for text in some_notes():
            for place in range(len(text)):
                self.check(text[:place] + text[place + 1:])

    def test_blanks_and_line_ends(self):
        for text in some_notes():
            for place in range(len(text) + 1):
                for blank in (" ", "\n", "\t", "\n\n", "  "):
                    self.check_refused(text[:place] + blank + text[place:])
            for blank in (" ", "\n", "\t"):
                self.check_refused(blank + text + blank)

    def test_a_sign_ahead_of_the_number(self):
        for text in some_notes():
            for sign in SIGNS:
                if sign not in "123456789":
                    self.check_refused(sign + text)

    def test_two_notes(self):
        for text in some_notes():
            self.check_refused((text + text)[:100])
            self.check_refused((text + "\n" + text)[:100])

    def test_argument_by_its_name(self):
        self.assertEqual(read(text="1:"), [[]])


if __name__ == "__main__":
    unittest.main()
