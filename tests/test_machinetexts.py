"""Point 7: machines written and read."""

import unittest

from calmword.errors import BadRoom, BadText
from calmword.machinetexts import read_machine, show_machine
from samples import ENDS_AB, EVERY, holds_to_point_2, made_machines, refused, ring

ENDS_AB_TEXT = "machine ab\n0 no 1 0\n1 no 1 2\n2 yes 1 0"


class Show(unittest.TestCase):
    def test_row_by_row(self):
        self.assertEqual(show_machine(ENDS_AB), ENDS_AB_TEXT)
        self.assertEqual(show_machine(EVERY), "machine ab\n0 yes 0 0")
        self.assertEqual(show_machine(("z", ((1,), (0,)), (False, True))), "machine z\n0 no 1\n1 yes 0")
        self.assertEqual(show_machine(("dbca", ((0, 0, 0, 0),), (False,))), "machine dbca\n0 no 0 0 0 0")

    def test_numbers_with_more_figures(self):
        rows = show_machine(ring(10002)).split("\n")
        self.assertEqual(rows[1], "0 yes 1")
        self.assertEqual(rows[10], "9 no 10")
        self.assertEqual(rows[10000], "9999 no 10000")
        self.assertEqual(rows[10002], "10001 no 0")

    def test_the_same_question_has_the_same_answer(self):
        holds_to_point_2(self, show_machine, ENDS_AB)


class Read(unittest.TestCase):
    def test_row_by_row(self):
        self.assertEqual(read_machine(ENDS_AB_TEXT), ENDS_AB)
        self.assertEqual(read_machine("machine ba\n0 yes 0 0"), ("ba", ((0, 0),), (True,)))

    def test_kinds(self):
        letters, moves, yes = read_machine(ENDS_AB_TEXT)
        self.assertIs(type(letters), str)
        self.assertIs(type(moves), tuple)
        self.assertIs(type(yes), tuple)
        self.assertEqual({type(row) for row in moves}, {tuple})
        self.assertEqual({type(room) for row in moves for room in row}, {int})
        self.assertEqual({type(answer) for answer in yes}, {bool})

    def test_read_back(self):
        for machine in made_machines(3, 60, 14) + [ring(60), ring(120, (1, 100), "cab"), ring(1001)]:
            self.assertEqual(read_machine(show_machine(machine)), machine)

    def test_four_figures_are_read(self):
        machine = ring(10000)
        self.assertEqual(read_machine(show_machine(machine)), machine)

    def test_the_same_question_has_the_same_answer(self):
        holds_to_point_2(self, read_machine, ENDS_AB_TEXT)


class Refused(unittest.TestCase):
    def at_of(self, text):
        return refused(self, BadText, read_machine, text).at

    def all_at(self, at, texts):
        for text in texts:
            self.assertEqual(self.at_of(text), at, repr(text))

    def test_the_text_without_signs_is_one_row(self):
        self.assertEqual(self.at_of(""), 0)

    def test_the_first_row(self):
        self.all_at(0, [
            "machine", "machine ", " machine ab", "machine  ab", "machine ab ", "machine a b", "Machine ab",
            "machines ab", "room ab", "machine aa", "machine abcde", "machine aB", "machine 1", "ab", "0 yes 0",
            "machine\tab", "machineab", "\nmachine a\n0 yes 0", "\n"])
        self.all_at(0, [first + "\n0 yes 0 0" for first in ("machine", "machine ab ", "machine abcde", "", "ab")])

    def test_the_text_ends_ahead_of_a_first_rooms_row(self):
        self.all_at(1, ["machine a", "machine ab", "machine dcba"])

    def test_empty_rows(self):
        self.all_at(1, ["machine a\n", "machine a\n\n0 yes 0", "machine a\n\n"])
        self.all_at(2, ["machine a\n0 yes 0\n", "machine a\n0 yes 0\n\n", "machine a\n0 yes 1\n\n1 no 0"])
        self.assertEqual(self.at_of(ENDS_AB_TEXT + "\n"), 4)

    def test_another_number_than_its_own(self):
        self.all_at(1, [f"machine a\n{number} yes 0" for number in ("1", "00", "-0", "+0", "", "x", "0.", "2")])
        self.all_at(2, [f"machine a\n0 no 0\n{number} yes 0" for number in ("0", "2", "01", "11", "-1", "001")])
        rows = show_machine(ring(11)).split("\n")
        rows[10] = "09 no 10"
        self.assertEqual(self.at_of("\n".join(rows)), 10)

    def test_another_word_than_yes_or_no(self):
        self.all_at(1, [f"machine a\n0 {word} 0" for word in ("Yes", "NO", "true", "1", "", "y", "yesno", "on")])

    def test_more_or_fewer_moves_than_letters(self):
        self.all_at(1, ["machine a\n0 yes", "machine a\n0", "machine a\n0 yes 0 0", "machine ab\n0 yes 0",
                        "machine ab\n0 yes 0 0 0", "machine dcba\n0 no 0 0 0"])
        self.all_at(2, ["machine a\n0 yes 0\n1 yes", "machine ab\n0 yes 1 1\n1 yes 0"])

    def test_blanks_more(self):
        self.all_at(1, ["machine a\n 0 yes 0", "machine a\n0  yes 0", "machine a\n0 yes  0", "machine a\n0 yes 0 ",
                        "machine a\n0 yes ", "machine a\n ", "machine a\n0\tyes\t0"])

    def test_moves_that_are_no_numbers_so_written(self):
        self.all_at(1, [f"machine a\n0 yes {word}" for word in (
            "00", "01", "-1", "+0", "0x", "x", "0.0", "12345", "10000", "00000", "1_0", "\u0660", "\u00b2")])
        self.assertEqual(self.at_of("machine ab\n0 yes 0 1\n1 no 0 00"), 2)

    def test_rows_of_machines_too_large_to_be_read(self):
        self.assertEqual(self.at_of(show_machine(ring(10001))), 10000)
        own_number = show_machine(("a", ((0,),) * 10002, (True,) * 10002))
        self.assertEqual(self.at_of(own_number), 10001)

    def test_the_first_wrong_row_goes_first(self):
        self.assertEqual(self.at_of("machine aa\n1 maybe"), 0)
        self.assertEqual(self.at_of("machine a\n0 maybe 0\n9 yes 0"), 1)
        self.assertEqual(self.at_of("machine a\n0 yes 0\n9 yes 0\n\n"), 2)

    def test_rooms_that_lead_nowhere_are_bad_rooms(self):
        for text, room in (
                ("machine a\n0 yes 1", 0), ("machine a\n0 yes 9999", 0), ("machine ab\n0 yes 0 1\n1 no 0 2", 1),
                ("machine ab\n0 yes 0 1\n1 no 2 0\n2 no 3 0\n3 no 4 4", 3)):
            self.assertEqual(refused(self, BadRoom, read_machine, text).room, room)

    def test_the_form_goes_ahead_of_the_rooms(self):
        self.assertEqual(self.at_of("machine a\n0 yes 7\n1 maybe 0"), 2)
        self.assertEqual(self.at_of("machine a\n0 yes 7\n"), 2)


if __name__ == "__main__":
    unittest.main()
