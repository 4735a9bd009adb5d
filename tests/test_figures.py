import re
import unittest

from tests.building import ODD
from tests.drawing import drawn_files
from tests.writing import Row, some_numbers
from tornentries.errors import NoText
from tornentries.figures import read_file, show_file

LINE = "[0-9a-f]{8}( [0-9a-f]{8}){%d}\n"


def first_wrong(text):
    """The number of the first line that can't stand there, or None, told by patterns alone."""
    lines = text.splitlines(keepends=True)
    for at, line in enumerate(lines):
        ahead = at == 0 or re.fullmatch(LINE % 7, lines[at - 1])
        if at == 125 or not ahead or not any([re.fullmatch(LINE % many, line) for many in range(8)]):
            return at
    return None


class ShowFileTest(unittest.TestCase):
    def test_by_hand(self):
        self.assertEqual(show_file(()), "")
        self.assertEqual(show_file((60, 60, 236, 7)), "3c3cec07\n")
        self.assertEqual(show_file((62, 62, 7, 236, 0, 0, 0, 2)), "3e3e07ec 00000002\n")
        self.assertEqual(show_file((1, 16, 171, 255) * 9), " ".join(["0110abff"] * 8) + "\n0110abff\n")
        self.assertEqual(show_file((0,) * 64), (" ".join(["00000000"] * 8) + "\n") * 2)

    def test_there_and_back(self):
        row = Row(4)
        for cells in list(range(21)) + [24, 25, 199, 992, 993, 999, 1000]:
            file = some_numbers(row, 4 * cells)
            text = show_file(file)
            self.assertEqual(len(text), 9 * cells)
            self.assertEqual([len(line) for line in text.split("\n")[:-1]],
                             [71] * (cells // 8) + [9 * (cells % 8) - 1] * (cells % 8 > 0))
            self.assertEqual(bytes.fromhex(text), bytes(file))
            self.assertEqual(read_file(text), file)
            self.assertIs(type(read_file(text)), tuple)
            self.assertIsNone(first_wrong(text))
        for _, file in drawn_files(20):
            self.assertEqual(read_file(show_file(file)), file)


class ReadFileTest(unittest.TestCase):
    def refused(self, text, line):
        with self.assertRaises(NoText, msg=text) as met:
            read_file(text)
        self.assertEqual(met.exception.line, line, text)
        self.assertIs(type(met.exception.line), type(line))
        if line is not None:
            self.assertEqual(first_wrong(text), line)

    def test_each_line_by_hand(self):
        full = " ".join(["0110abff"] * 8)
        for ahead in (0, 1, 2, 124):
            start = (full + "\n") * ahead
            self.assertEqual(read_file(start + "0110abff\n"), (1, 16, 171, 255) * (8 * ahead + 1))
            for line in ("", " ", "0110abf", "0110abfff", "110abff", "0110ABFF", "0110abfF", "0110abfg", "0110 abff", "01 10 ab ff",
                         "0110abff ", " 0110abff", "0110abff  0110abff", "0110abff\t0110abff", "0110abff,0110abff",
                         "0x10abff", "+110abff", "0110ab_f", "-110abff", "0110abff 0110abf", full + " 0110abff", full + " ",
                         "0110abff0110abff", "0110abf ff"):
                self.refused(start + line + "\n", ahead)
                self.refused(start + line + "\n" + full + "\n", ahead)
            for line in ("0110abff", "0", full, full[:-1], " ", full + " 0110abff"):
                self.refused(start + line, ahead)

    def test_a_line_of_fewer_stands_last(self):
        full = " ".join(["0110abff"] * 8)
        for cells in range(1, 8):
            short = " ".join(["0110abff"] * cells)
            self.assertEqual(len(read_file(full + "\n" + short + "\n")), 32 + 4 * cells)
            for behind in (short, full, "", "x"):
                self.refused(full + "\n" + short + "\n" + behind + "\n", 2)
                self.refused(short + "\n" + behind + "\n", 1)
            self.refused(short + "\n" + short, 1)

    def test_a_thousand_cells(self):
        line = " ".join(["0110abff"] * 8) + "\n"
        self.assertEqual(len(read_file(line * 125)), 4000)
        self.refused(line * 125 + "0110abff\n", 125)
        self.refused(line * 126, 125)
        self.refused(line * 125 + "\n", 125)
        self.refused(line * 125 + "0", 125)

    def test_what_is_no_text(self):
        for thing in ODD:
            if not isinstance(thing, str):
                self.refused(thing, None)
        self.refused(["3c3cec07\n"], None)
        self.refused((60, 60, 236, 7), None)

    def test_many(self):
        met = {}
        for start in range(60):
            row = Row(start)
            text = show_file(some_numbers(row, 4 * row.below(40)))
            for _ in range(40):
                spot = row.below(len(text) + 1)
                sign = " \n0af9AgG"[row.below(9)]
                other = (text[:spot] + sign + text[spot:], text[:spot] + sign + text[spot + 1:], text[:spot] + text[spot + 1:],
                         text[:spot])[row.below(4)]
                wrong = first_wrong(other)
                if wrong is None:
                    self.assertEqual(show_file(read_file(other)), other)
                else:
                    self.refused(other, wrong)
                met[wrong] = True
        self.assertTrue(len(met) > 4)
