import unittest

from tests.building import ODD, nested, variants
from tornentries.errors import NoWay
from tornentries.machine import gone
from tornentries.ways import looked, way_to

ROOT, NEXT, WORTH = ("root",), ("next",), ("worth",)


def find(tag):
    return ("find", tag)


def into(k):
    return ("into", k)


GOOD = (
    [ROOT],
    [ROOT, NEXT],
    [ROOT, NEXT, NEXT, NEXT],
    [ROOT, find(0)],
    [ROOT, find(65535)],
    [ROOT, NEXT, find(7), WORTH],
    [ROOT, find(7), into(0)],
    [ROOT, find(7), into(10 ** 99)],
    [ROOT, find(7), into(0), NEXT],
    [ROOT, find(7), into(0), find(7), WORTH],
    [ROOT, NEXT, find(1), into(2), NEXT, NEXT, find(3), into(4), find(5), into(6), find(7), WORTH],
    [ROOT] + [find(1), into(0)] * 200,
    [ROOT] + [NEXT] * 4000,
)

BAD = (
    [],
    [NEXT], [WORTH], [find(1)], [into(1)],
    [ROOT, ROOT], [ROOT, NEXT, ROOT], [ROOT, find(1), ROOT], [ROOT, find(1), into(0), ROOT], [ROOT, find(1), WORTH, ROOT],
    [NEXT, ROOT], [find(1), ROOT],
    [ROOT, into(0)], [ROOT, WORTH], [ROOT, NEXT, into(0)], [ROOT, NEXT, WORTH],
    [ROOT, find(1), find(1)], [ROOT, find(1), NEXT],
    [ROOT, find(1), into(0), into(0)], [ROOT, find(1), into(0), WORTH],
    [ROOT, find(1), WORTH, WORTH], [ROOT, find(1), WORTH, NEXT], [ROOT, find(1), WORTH, find(1)],
    [ROOT, find(1), WORTH, into(0)],
    [ROOT, find(-1)], [ROOT, find(65536)], [ROOT, find(True)], [ROOT, find(False)], [ROOT, find(None)], [ROOT, find("1")],
    [ROOT, find((1,))], [ROOT, find([])],
    [ROOT, find(1), into(-1)], [ROOT, find(1), into(True)], [ROOT, find(1), into(None)], [ROOT, find(1), into("0")],
    [ROOT, find(1), into([])],
    [()], [("root", 0)], [("Root",)], [("",)], [(None,)], [([],)], [({},)], [(0,)], [(("root",),)], ["root"], [["root"]],
    [None], [0], [True], [[]], [{}], ["" ],
    [ROOT, ("next", 1)], [ROOT, ("find",)], [ROOT, ("find", 1, 2)], [ROOT, find(1), ("into",)], [ROOT, find(1), ("into", 0, 0)],
    [ROOT, find(1), ("worth", 0)], [ROOT, find(1), ("worths",)], [ROOT, "next"], [ROOT, ["next"]], [ROOT, ["find", 1]],
    [ROOT, find(1), ["into", 0]], [ROOT, find(1), ["worth"]], [ROOT, None], [ROOT, ()], [ROOT, find(1), nested(20)],
)


class WayToTest(unittest.TestCase):
    def test_in_the_first_chain(self):
        self.assertEqual(way_to((0,), 5), [ROOT, find(5), WORTH])
        self.assertEqual(way_to((1,), 0), [ROOT, NEXT, find(0), WORTH])
        self.assertEqual(way_to((9,), 65535), [ROOT] + [NEXT] * 9 + [find(65535), WORTH])

    def test_deep_within(self):
        self.assertEqual(way_to((0, 7, 2, 0), 5), [ROOT, find(7), into(2), find(5), WORTH])
        self.assertEqual(way_to((1, 7, 0, 2), 5), [ROOT, NEXT, find(7), into(0), NEXT, NEXT, find(5), WORTH])
        self.assertEqual(way_to((0, 1, 2, 1, 4, 5, 0), 6),
                         [ROOT, find(1), into(2), NEXT, find(4), into(5), find(6), WORTH])
        self.assertEqual(way_to((2, 10, 20, 1, 11, 21, 0, 12, 299, 3), 13),
                         [ROOT, NEXT, NEXT, find(10), into(20), NEXT, find(11), into(21), find(12), into(299), NEXT, NEXT,
                          NEXT, find(13), WORTH])

    def test_they_are_looked_through(self):
        for path in ((0,), (9,), (0, 65535, 300, 0), (1, 0, 0, 1), (0, 1, 2, 3, 4, 5, 6), (9, 8, 7, 6, 5, 4, 3, 2, 1, 0)):
            rows = way_to(path, 9)
            self.assertIs(type(rows), list)
            self.assertEqual(looked(rows), rows)

    def test_the_askers_own(self):
        rows = way_to((1,), 5)
        rows.clear()
        self.assertEqual(way_to((1,), 5), [ROOT, NEXT, find(5), WORTH])


class LookedTest(unittest.TestCase):
    def test_ways(self):
        for rows in GOOD:
            self.assertEqual(looked(rows), rows)
            self.assertIs(type(looked(rows)), list)

    def refused(self, rows):
        with self.assertRaises(NoWay):
            looked(rows)
        with self.assertRaises(NoWay):
            gone((), rows)
        with self.assertRaises(NoWay):
            gone((60, 60, 236, 7, 0, 0, 0, 0), rows)

    def test_others(self):
        for rows in BAD:
            with self.subTest(rows):
                self.refused(rows)

    def test_anything(self):
        for thing in ODD:
            with self.subTest(thing):
                self.refused(thing)
        for rows in GOOD[:10]:
            self.refused(tuple(rows))
            self.refused([rows])
            self.refused({0: rows})
            self.refused(dict([(row, True) for row in rows]))

    def test_each_place_otherwise(self):
        whole = [ROOT, NEXT, find(1), into(0), find(65535), into(1), NEXT, find(0), WORTH]
        self.assertEqual(looked(whole), whole)
        told = 0
        for rows in variants(whole):
            if self.is_way(rows):
                self.assertEqual(looked(rows), rows)
                told += 1
            else:
                self.refused(rows)
        self.assertTrue(told > 5)

    @staticmethod
    def is_way(rows):
        """Told by a row of signs, one for each row, against the wording of the promise."""
        if type(rows) is not list or not all([type(row) is tuple and row and type(row[0]) is str for row in rows]):
            return False
        signs = ""
        for row in rows:
            many = {"root": 1, "next": 1, "find": 2, "into": 2, "worth": 1}.get(row[0])
            if many != len(row) or not all([type(part) is int and part >= 0 for part in row[1:]]):
                return False
            if row[0] == "find" and row[1] > 65535:
                return False
            signs += row[0][0]
        if signs[:1] != "r" or "r" in signs[1:] or "w" in signs[:-1]:
            return False
        return all([pair in ("rn", "rf", "nn", "nf", "in", "if", "fi", "fw") for pair in map("".join, zip(signs, signs[1:]))])

    def test_nothing_is_changed_and_all_is_the_askers_own(self):
        rows = [ROOT, NEXT, find(1), WORTH]
        told = looked(rows)
        self.assertEqual(rows, [ROOT, NEXT, find(1), WORTH])
        self.assertIsNot(told, rows)
        told.pop()
        self.assertEqual(rows, [ROOT, NEXT, find(1), WORTH])
        rows.append(WORTH)
        self.assertEqual(told, [ROOT, NEXT, find(1)])
