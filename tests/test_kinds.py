import unittest
from itertools import combinations

from tests.building import ODD
from tornentries import kinds
from tornentries.kinds import KNOWN, is_known, width


class KnownTest(unittest.TestCase):
    def test_known(self):
        self.assertEqual(KNOWN, (1, 2, 3, 4, 5, 6))
        self.assertIs(type(kinds.KNOWN), tuple)

    def test_some_of_the_six(self):
        for many in range(7):
            for some in combinations((1, 2, 3, 4, 5, 6), many):
                self.assertIs(is_known(some), True, some)

    def test_others(self):
        wrong = ((0,), (7,), (-1,), (1, 1), (2, 1), (1, 3, 2), (1, 2, 3, 4, 5, 6, 7), (0, 1), (True,), (1, True), (1, 2.0),
                 (1, None), ("1",), "1", ((1,),), [1], [], {}, {1: 2}, None, 1, (1, 2, 10 ** 99))
        for thing in wrong:
            self.assertIs(is_known(thing), False, thing)

    def test_anything(self):
        for thing in ODD:
            self.assertIs(is_known(thing), thing == (), thing)


class WidthTest(unittest.TestCase):
    def test_low_kinds(self):
        told = [width(kind) for kind in range(21)]
        self.assertEqual(told, [1, 1, 2, 4, 1, 4, 4] + [2, 4, 1, 2, 4, 1, 2, 4, 1, 2, 4, 1, 2, 4])

    def test_high_kinds(self):
        self.assertEqual([width(kind) for kind in (65533, 65534, 65535)], [2, 4, 1])
