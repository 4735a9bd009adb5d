import unittest

from tests.building import ODD
from tornentries.cells import cell_of, is_file, is_stroke, stroked


class IsFileTest(unittest.TestCase):
    def test_files(self):
        for many in (0, 4, 8, 3996, 4000):
            self.assertIs(is_file((7,) * many), True, many)
        self.assertIs(is_file((0, 255, 1, 254)), True)

    def test_wrong_lengths(self):
        for many in (1, 2, 3, 5, 7, 3999, 4001, 4004, 4400):
            self.assertIs(is_file((7,) * many), False, many)

    def test_wrong_numbers(self):
        for wrong in (256, -1, True, False, None, "a", "7", (), (7,), [7], 10 ** 99):
            for at in range(4):
                numbers = [1, 2, 3, 4]
                numbers[at] = wrong
                self.assertIs(is_file(tuple(numbers)), False, numbers)

    def test_anything(self):
        for thing in ODD:
            self.assertIs(is_file(thing), thing == (), thing)
        self.assertIs(is_file([0, 0, 0, 0]), False)
        self.assertIs(is_file([]), False)
        self.assertIs(is_file(((0, 0, 0, 0),)), False)
        self.assertIs(is_file("abcd"), False)


class IsStrokeTest(unittest.TestCase):
    def test_strokes(self):
        for cell in (0, 1, 998, 999):
            self.assertIs(is_stroke((cell, (0, 255, 1, 2))), True)

    def test_wrong_cells(self):
        for cell in (-1, 1000, True, False, None, "0", (0,), 10 ** 99, -10 ** 99):
            self.assertIs(is_stroke((cell, (0, 0, 0, 0))), False, cell)

    def test_wrong_numbers(self):
        wrong = ((), (1,), (1, 2, 3), (1, 2, 3, 4, 5), [1, 2, 3, 4], (1, 2, 3, 256), (-1, 2, 3, 4), (1, True, 3, 4),
                 (1, 2, None, 4), (1, 2, "3", 4), (1, 2, (3,), 4), "1234", None, 4, {0: 1, 1: 2, 2: 3, 3: 4})
        for numbers in wrong:
            self.assertIs(is_stroke((1, numbers)), False, numbers)

    def test_nested_otherwise(self):
        for thing in ([1, (1, 2, 3, 4)], (1, 1, 2, 3, 4), ((1, (1, 2, 3, 4)),), (1, (1, 2, 3, 4), 0), ((1, 2, 3, 4), 1),
                      (1, ((1, 2, 3, 4),)), (1,), ((1, 2, 3, 4),)):
            self.assertIs(is_stroke(thing), False, thing)

    def test_anything(self):
        for thing in ODD:
            self.assertIs(is_stroke(thing), False, thing)


class CellOfTest(unittest.TestCase):
    def test_cells(self):
        file = tuple([k % 256 for k in range(4000)])
        for cell in (0, 1, 2, 63, 64, 500, 998, 999):
            told = cell_of(file, cell)
            self.assertIs(type(told), tuple)
            self.assertEqual(told, tuple([k % 256 for k in range(4 * cell, 4 * cell + 4)]))
        self.assertEqual(cell_of((9, 8, 7, 6), 0), (9, 8, 7, 6))


class StrokedTest(unittest.TestCase):
    file = (1, 2, 3, 4, 5, 6, 7, 8, 9, 10, 11, 12)

    def test_no_stroke(self):
        self.assertEqual(stroked(self.file, []), self.file)
        self.assertEqual(stroked((), []), ())

    def test_at_a_cell(self):
        self.assertEqual(stroked(self.file, [(0, (0, 0, 0, 9))]), (0, 0, 0, 9) + self.file[4:])
        self.assertEqual(stroked(self.file, [(1, (0, 0, 0, 9))]), (1, 2, 3, 4, 0, 0, 0, 9, 9, 10, 11, 12))
        self.assertEqual(stroked(self.file, [(2, (0, 0, 0, 9))]), self.file[:8] + (0, 0, 0, 9))

    def test_at_the_end_and_behind_it(self):
        self.assertEqual(stroked(self.file, [(3, (5, 6, 7, 8))]), self.file + (5, 6, 7, 8))
        self.assertEqual(stroked(self.file, [(6, (5, 6, 7, 8))]), self.file + (0,) * 12 + (5, 6, 7, 8))
        self.assertEqual(stroked((), [(0, (5, 6, 7, 8))]), (5, 6, 7, 8))
        self.assertEqual(stroked((), [(1, (5, 6, 7, 8))]), (0, 0, 0, 0, 5, 6, 7, 8))

    def test_one_behind_the_other(self):
        self.assertEqual(stroked((), [(1, (1, 1, 1, 1)), (1, (2, 2, 2, 2))]), (0, 0, 0, 0, 2, 2, 2, 2))
        strokes = [(5, (5, 5, 5, 5)), (3, (3, 3, 3, 3)), (0, (7, 7, 7, 7))]
        self.assertEqual(stroked(self.file, strokes), (7,) * 4 + self.file[4:] + (3,) * 4 + (0,) * 4 + (5,) * 4)

    def test_the_last_cell(self):
        told = stroked(self.file, [(999, (1, 2, 3, 4))])
        self.assertEqual(told, self.file + (0,) * 3984 + (1, 2, 3, 4))
        self.assertIs(is_file(told), True)

    def test_what_was_handed_in_stays(self):
        strokes = [(4, (1, 2, 3, 4)), (0, (0, 0, 0, 0))]
        kept = list(strokes)
        file = tuple(list(self.file))
        told = stroked(file, strokes)
        self.assertEqual((file, strokes), (self.file, kept))
        self.assertIs(type(told), tuple)
        strokes.clear()
        self.assertEqual(told, (0,) * 4 + self.file[4:] + (0,) * 4 + (1, 2, 3, 4))
