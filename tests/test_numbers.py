import unittest

from tests.building import ORDERS, number
from tornentries.numbers import number_in, written

TWO = (0, 1, 2, 255, 256, 257, 2028, 65534, 65535)
FOUR = TWO + (65536, 65537, 16777215, 16777216, 2 ** 31, 2 ** 32 - 2, 2 ** 32 - 1)


class NumbersTest(unittest.TestCase):
    def test_by_hand(self):
        self.assertEqual(written("small", 2028, 2), (236, 7))
        self.assertEqual(written("great", 2028, 2), (7, 236))
        self.assertEqual(written("small", 256, 2), (0, 1))
        self.assertEqual(written("great", 256, 2), (1, 0))
        self.assertEqual(written("small", 65536, 4), (0, 0, 1, 0))
        self.assertEqual(written("great", 65536, 4), (0, 1, 0, 0))
        self.assertEqual(written("small", 16909060, 4), (4, 3, 2, 1))
        self.assertEqual(written("great", 16909060, 4), (1, 2, 3, 4))
        self.assertEqual(written("great", 2 ** 32 - 1, 4), (255, 255, 255, 255))
        self.assertEqual(number_in("small", (4, 3, 2, 1)), 16909060)
        self.assertEqual(number_in("great", (1, 2, 3, 4)), 16909060)
        self.assertEqual(number_in("small", (1, 0)), 1)
        self.assertEqual(number_in("great", (1, 0)), 256)

    def test_written_and_read_back(self):
        for order in ORDERS:
            for many, worths in ((2, TWO), (4, FOUR)):
                for worth in worths:
                    with self.subTest((order, many, worth)):
                        told = written(order, worth, many)
                        self.assertIs(type(told), tuple)
                        self.assertEqual(told, number(order, worth, many))
                        back = number_in(order, told)
                        self.assertIs(type(back), int)
                        self.assertEqual(back, worth)

    def test_beyond_is_no_error(self):
        for order in ORDERS:
            self.assertEqual(len(written(order, 65536, 2)), 2)
            self.assertEqual(len(written(order, 2 ** 32, 4)), 4)
