import unittest

from tests.building import ODD, ORDERS, number
from tornentries.worths import is_worths, packed, unpacked

SIGNS = " -.0123456789ABCDEFGHIJKLMNOPQRSTUVWXYZabcdefghijklmnopqrstuvwxyz"
BOUNDS = {1: 255, 2: 65535, 3: 2 ** 32 - 1}
RAW = ((0, 1), (7, 2), (8, 4), (9, 1), (65535, 1), (65534, 4))


class IsWorthsTest(unittest.TestCase):
    def test_numbers(self):
        for kind, most in BOUNDS.items():
            for thing in ((), (0,), (most,), (0, most, 1), (1,) * 300, (most,) * 300):
                self.assertIs(is_worths(kind, thing), True, (kind, thing))
            for thing in ((most + 1,), (-1,), (0, most + 1), (1,) * 301, (True,), (0, False), (None,), ("1",), ((1,),),
                          [], [1], "", "1", None, 0, True, {}, {0: 1}, (10 ** 99,)):
                self.assertIs(is_worths(kind, thing), False, (kind, thing))

    def test_texts(self):
        for thing in ("", SIGNS, " ", "-", ".", "a" * 300):
            self.assertIs(is_worths(4, thing), True, thing)
        for thing in ("a" * 301, "a\n", None, 0, True, (), ("a",), ["a"], [], {}, (97,)):
            self.assertIs(is_worths(4, thing), False, thing)

    def test_each_sign(self):
        for at in range(128):
            self.assertIs(is_worths(4, chr(at)), chr(at) in SIGNS, at)
            self.assertIs(is_worths(4, "a" + chr(at)), chr(at) in SIGNS, at)

    def test_raw(self):
        for kind, wide in RAW:
            for many in (0, 1, 2, 299, 300):
                self.assertIs(is_worths(kind, (255,) * (many * wide)), True, (kind, many))
            self.assertIs(is_worths(kind, (0,) * (301 * wide)), False, kind)
            for many in range(1, wide):
                self.assertIs(is_worths(kind, (0,) * many), False, (kind, many))
                self.assertIs(is_worths(kind, (0,) * (wide + many)), False, (kind, many))
            for wrong in (256, -1, True, None, "a", (0,)):
                self.assertIs(is_worths(kind, (wrong,) * wide), False, (kind, wrong))
            for thing in ([], [0] * wide, "", "a" * wide, None, 0, False, {}):
                self.assertIs(is_worths(kind, thing), False, (kind, thing))

    def test_known_kinds_that_this_reader_does_not_know(self):
        for kind, wide in ((1, 1), (2, 2), (3, 4), (4, 1), (5, 4), (6, 4)):
            for known in ((), tuple([k for k in (1, 2, 3, 4, 5, 6) if k != kind])):
                self.assertIs(is_worths(kind, (255,) * wide, known=known), True)
                self.assertIs(is_worths(kind, (0,) * (300 * wide), known=known), True)
                self.assertIs(is_worths(kind, (0,) * (301 * wide), known=known), False)
                self.assertIs(is_worths(kind, (256,) * wide, known=known), False)
                self.assertIs(is_worths(kind, "", known=known), False)
                self.assertIs(is_worths(kind, ((),), known=known), False)
                if wide > 1:
                    self.assertIs(is_worths(kind, (0,), known=known), False)
        self.assertIs(is_worths(2, (65535,), known=(2,)), True)
        self.assertIs(is_worths(4, "a", known=(4,)), True)

    def test_anything(self):
        for thing in ODD:
            for kind in (1, 2, 3, 4, 7, 8, 9):
                self.assertIn(is_worths(kind, thing), (True, False))
                self.assertIn(is_worths(kind, thing, known=()), (True, False))
        for thing in (None, True, 0, [], {}, (None,), ([],), ((),)):
            for kind in (1, 2, 3, 4, 7, 8, 9):
                self.assertIs(is_worths(kind, thing), False, (kind, thing))


class PackedTest(unittest.TestCase):
    def test_by_hand(self):
        self.assertEqual(packed("small", 1, (1, 2, 3)), ((1, 2, 3, 0),))
        self.assertEqual(packed("great", 1, (1, 2, 3)), ((1, 2, 3, 0),))
        self.assertEqual(packed("small", 2, (258, 1, 2)), ((2, 1, 1, 0), (2, 0, 0, 0)))
        self.assertEqual(packed("great", 2, (258, 1, 2)), ((1, 2, 0, 1), (0, 2, 0, 0)))
        self.assertEqual(packed("small", 3, (1, 16909060)), ((1, 0, 0, 0), (4, 3, 2, 1)))
        self.assertEqual(packed("great", 3, (1, 16909060)), ((0, 0, 0, 1), (1, 2, 3, 4)))
        self.assertEqual(packed("small", 4, "a-Z 9"), ((97, 45, 90, 32), (57, 0, 0, 0)))
        self.assertEqual(packed("great", 4, "a-Z 9"), ((97, 45, 90, 32), (57, 0, 0, 0)))

    def test_raw_ones_stand_as_they_are(self):
        for order in ORDERS:
            self.assertEqual(packed(order, 7, (1, 2, 3, 4, 5, 6)), ((1, 2, 3, 4), (5, 6, 0, 0)))
            self.assertEqual(packed(order, 8, (1, 2, 3, 4)), ((1, 2, 3, 4),))
            self.assertEqual(packed(order, 9, (1, 2, 3, 4, 5)), ((1, 2, 3, 4), (5, 0, 0, 0)))
            self.assertEqual(packed(order, 2, (1, 2), known=(1, 3)), ((1, 2, 0, 0),))
            self.assertEqual(packed(order, 4, (1, 200), known=()), ((1, 200, 0, 0),))

    def test_none_a_cell_and_one_more(self):
        worths = {1: (9,) * 5, 2: (9,) * 3, 3: (9,) * 2, 4: "99999", 7: (9,) * 6, 8: (9,) * 8, 9: (9,) * 5}
        for order in ORDERS:
            for kind, more in worths.items():
                self.assertEqual(packed(order, kind, more[:0]), ())
                wide = {1: 1, 2: 2, 3: 4, 4: 1, 7: 1, 8: 1, 9: 1}[kind]
                self.assertEqual(len(packed(order, kind, more[:4 // wide])), 1)
                cells = packed(order, kind, more)
                self.assertIs(type(cells), tuple)
                self.assertEqual([(type(cell), len(cell)) for cell in cells], [(tuple, 4)] * 2)

    def test_what_was_handed_in_stays(self):
        for kind, worths in ((1, (1, 2, 3)), (4, "abc"), (7, (1, 2))):
            packed("small", kind, worths)
            self.assertIn(worths, ((1, 2, 3), "abc", (1, 2)))


class UnpackedTest(unittest.TestCase):
    def test_by_hand(self):
        cells = ((97, 98, 99, 48), (49, 50, 51, 52))
        self.assertEqual(unpacked("small", 1, 3, cells), (97, 98, 99))
        self.assertEqual(unpacked("small", 2, 3, cells), (97 + 98 * 256, 99 + 48 * 256, 49 + 50 * 256))
        self.assertEqual(unpacked("great", 2, 1, cells), (97 * 256 + 98,))
        self.assertEqual(unpacked("great", 3, 2, ((0, 0, 1, 0), (255,) * 4)), (256, 2 ** 32 - 1))
        self.assertEqual(unpacked("small", 3, 1, ((0, 0, 1, 0), (255,) * 4)), (65536,))
        self.assertEqual(unpacked("small", 4, 5, cells), "abc01")
        self.assertEqual(unpacked("small", 7, 3, cells), (97, 98, 99, 48, 49, 50))
        self.assertEqual(unpacked("great", 8, 1, cells), (97, 98, 99, 48))
        self.assertEqual(unpacked("great", 4, 2, cells, known=(1,)), (97, 98))
        self.assertEqual(unpacked("great", 2, 2, cells, known=()), (97, 98, 99, 48))

    def test_of_none(self):
        for order in ORDERS:
            for cells in ((), ((1, 2, 3, 4),)):
                for kind in (1, 2, 3, 7, 8, 9):
                    self.assertEqual(unpacked(order, kind, 0, cells), ())
                self.assertEqual(unpacked(order, 4, 0, cells), "")

    def test_each_sign(self):
        cells = packed("small", 4, SIGNS)
        self.assertEqual(unpacked("small", 4, len(SIGNS), cells), SIGNS)
        self.assertEqual([sign for cell in cells for sign in cell][:len(SIGNS)], [ord(sign) for sign in SIGNS])

    def test_there_and_back(self):
        for order in ORDERS:
            for kind, most in BOUNDS.items():
                wide = {1: 1, 2: 2, 3: 4}[kind]
                for many in (0, 1, 2, 3, 4, 5, 8, 9, 299, 300):
                    worths = tuple([(most - 77 * k) % (most + 1) for k in range(many)])
                    cells = packed(order, kind, worths)
                    flat = [part for worth in worths for part in number(order, worth, wide)]
                    flat += [0] * (-len(flat) % 4)
                    self.assertEqual([part for cell in cells for part in cell], flat)
                    self.assertEqual(unpacked(order, kind, many, cells), worths)
                    self.assertEqual(unpacked(order, kind, many, cells + ((9, 9, 9, 9),) * 2), worths)
            for kind, wide in RAW:
                for many in (0, 1, 2, 3, 5, 300):
                    worths = tuple([k % 256 for k in range(many * wide)])
                    cells = packed(order, kind, worths)
                    self.assertEqual(unpacked(order, kind, many, cells), worths)
                    self.assertEqual(unpacked(order, kind, many, cells + ((9, 9, 9, 9),)), worths)
            for text in ("", "a", "abcd", "abcde", "x.y-Z 0" * 40):
                cells = packed(order, 4, text)
                self.assertEqual(unpacked(order, 4, len(text), cells + ((97, 97, 97, 97),)), text)
