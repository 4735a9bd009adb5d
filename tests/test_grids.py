import unittest

from tests.building import ODD, ORDERS, variants
from tests.writing import Row
from tornentries.cuts import torn
from tornentries.deeds import done, is_deed
from tornentries.errors import NoGrid, NoTable, NoTag
from tornentries.grids import grid_entries, grid_in, grid_of, put_grid, put_number, tiles_of
from tornentries.making import made
from tornentries.reading import read
from tornentries.strokes import strokes_of
from tornentries.trees import is_entry

GRID = ((0, 1, 2, 3, 4), (10, 11, 12, 13, 14), (20, 21, 22, 23, 24))


def drawn_grid(row, wide, high):
    return tuple([tuple([row.below(256) for _ in range(wide)]) for _ in range(high)])


def tile_by_tile(grid, wide, high):
    """The tiles, told number by number."""
    across = (len(grid[0]) + wide - 1) // wide
    tiles = [[] for _ in range(across * ((len(grid) + high - 1) // high))]
    for at, numbers in enumerate(grid):
        for column, number in enumerate(numbers):
            tiles[at // high * across + column // wide].append(number)
    return [tuple(tile) for tile in tiles]


class TilesTest(unittest.TestCase):
    def both(self, grid, wide, high, tiles):
        told = tiles_of(grid, wide=wide, high=high)
        self.assertEqual(told, tiles)
        self.assertIs(type(told), list)
        size = (len(grid[0]), len(grid))
        for form in (list(tiles), tuple(tiles)):
            again = grid_of(form, size=size, wide=wide, high=high)
            self.assertEqual(again, grid)
            self.assertEqual({type(again)} | {type(numbers) for numbers in again}, {tuple})

    def test_by_hand(self):
        self.both(GRID, 2, 2, [(0, 1, 10, 11), (2, 3, 12, 13), (4, 14), (20, 21), (22, 23), (24,)])
        self.both(GRID, 5, 3, [GRID[0] + GRID[1] + GRID[2]])
        self.both(GRID, 5, 1, list(GRID))
        self.both(GRID, 1, 3, [(k, 10 + k, 20 + k) for k in range(5)])
        self.both(GRID, 1, 1, [(number,) for numbers in GRID for number in numbers])
        self.both(GRID, 3, 2, [(0, 1, 2, 10, 11, 12), (3, 4, 13, 14), (20, 21, 22), (23, 24)])
        self.both(GRID, 4, 4, [(0, 1, 2, 3, 10, 11, 12, 13, 20, 21, 22, 23), (4, 14, 24)])
        for wide, high in ((6, 4), (30, 31), (65535, 65535), (5, 65535), (65535, 3)):
            self.both(GRID, wide, high, [GRID[0] + GRID[1] + GRID[2]])
        self.both(((255,),), 1, 1, [(255,)])
        self.both(((255,),), 65535, 9, [(255,)])

    def test_there_and_back(self):
        row = Row(5)
        sizes = ((1, 1), (1, 30), (30, 1), (30, 30), (29, 30), (7, 13), (16, 16), (10, 3))
        parts = (1, 2, 3, 5, 7, 15, 29, 30, 31, 100)
        for wide, high in sizes:
            grid = drawn_grid(row, wide, high)
            for part in parts:
                for other in (1, 2, 4, 15, 30, 40):
                    tiles = tile_by_tile(grid, part, other)
                    if len(tiles) <= 300 and len(tiles[0]) <= 300:
                        self.both(grid, part, other, tiles)

    def test_nothing_is_changed(self):
        tiles = tiles_of(GRID, wide=2, high=2)
        kept = list(tiles)
        grid_of(tiles, size=(5, 3), wide=2, high=2)
        self.assertEqual(tiles, kept)
        tiles.clear()
        self.assertEqual(tiles_of(GRID, wide=2, high=2), kept)


class NoGridTest(unittest.TestCase):
    def refused(self, tiles, size=(5, 3), wide=2, high=2):
        with self.assertRaises(NoGrid):
            grid_of(tiles, size=size, wide=wide, high=high)

    def test_anything_as_tiles(self):
        for thing in ODD:
            self.refused(thing)
            self.refused([thing], size=(1, 1))
            if type(thing) is not int or not 0 <= thing <= 255:
                self.refused([(thing,)], size=(1, 1))
        self.refused([(0,)] * 2, size=(1, 1))

    def test_anything_as_size(self):
        tiles = tiles_of(GRID, wide=2, high=2)
        for thing in ODD:
            self.refused(tiles, size=thing)
        for size in ((5, 3, 1), (5,), [5, 3], (3, 5), (5, 4), (4, 3), (0, 3), (5, 0), (31, 3), (5, 31), (-5, 3), (5, True), (5, "3"),
                     (5, None), ((5, 3),), "53", {5: 3}):
            self.refused(tiles, size=size)
        self.refused([], size=(0, 0))
        self.refused([], size=(0, 3))
        self.refused([(1,)], size=(True, 1), wide=1, high=1)
        self.refused([tuple(range(31))], size=(31, 1), wide=31, high=1)
        self.refused([tuple(range(31))], size=(1, 31), wide=1, high=31)
        self.refused([], size=(-1, 3), wide=3, high=3)

    def test_each_place_otherwise(self):
        tiles = tiles_of(GRID, wide=2, high=2)
        fitting = 0
        for thing in variants(tiles):
            fits = isinstance(thing, (list, tuple)) and len(thing) == 6 and all(
                [type(tile) is tuple and len(tile) == len(whole) and all([type(n) is int and 0 <= n <= 255 for n in tile])
                 for tile, whole in zip(thing, tiles)])
            if fits:
                self.assertEqual(tiles_of(grid_of(thing, size=(5, 3), wide=2, high=2), wide=2, high=2), list(thing))
                fitting += 1
            else:
                self.refused(thing)
        self.assertTrue(fitting > 10)

    def test_numbers_and_tiles(self):
        good = [(0, 1, 10, 11), (2, 3, 12, 13), (4, 14), (20, 21), (22, 23), (24,)]
        for at in range(6):
            self.refused(good[:at] + good[at + 1:])
            self.refused(good[:at] + [good[at]] + good[at:])
            for wrong in (256, -1, True, False, None, "1", (), 10 ** 99):
                self.refused(good[:at] + [good[at][:-1] + (wrong,)] + good[at + 1:])
            self.refused(good[:at] + [good[at] + (0,)] + good[at + 1:])
            self.refused(good[:at] + [good[at][:-1]] + good[at + 1:])
            self.refused(good[:at] + [list(good[at])] + good[at + 1:])
        self.refused(good + [()])
        self.refused(good[::-1])


class GridEntriesTest(unittest.TestCase):
    def test_entries(self):
        tiles = tuple(tiles_of(GRID, wide=2, high=2))
        for tag in (0, 7, 65531):
            told = grid_entries(tag, GRID, wide=2, high=2)
            self.assertEqual(told, [(tag, 2, (5,)), (tag + 1, 2, (3,)), (tag + 2, 2, (2,)), (tag + 3, 2, (2,)),
                                    (tag + 4, 6, tiles)])
            self.assertIs(type(told), list)
            self.assertTrue(all([is_entry(entry) for entry in told]))
            self.assertEqual(grid_in(("small", (tuple(told),)), (0,), tag), GRID)
        self.assertEqual(grid_entries(1, ((7, 8),), wide=1, high=1),
                         [(1, 2, (2,)), (2, 2, (1,)), (3, 2, (1,)), (4, 2, (1,)), (5, 6, ((7,), (8,)))])
        told = grid_entries(3, GRID, wide=65535, high=1000)
        self.assertEqual(told[2:4], [(5, 2, (65535,)), (6, 2, (1000,))])
        self.assertEqual(grid_in(("great", ((), tuple(told))), (1,), 3), GRID)


class GridInTest(unittest.TestCase):
    def setUp(self):
        self.entries = grid_entries(10, GRID, wide=2, high=2)
        self.table = ((3, 1, (1,)),) + tuple(self.entries) + ((99, 4, "a"),)
        self.tree = ("small", ((), self.table, ((5, 5, ((self.table,),)),)))

    def refused(self, error, tree, path, tag, field=None):
        for call in (lambda: grid_in(tree, path, tag), lambda: put_number(tree, path, tag, 0, 0, 7)):
            with self.assertRaises(error) as met:
                call()
            if error is NoTable:
                self.assertEqual(met.exception.path, field)
            if error is NoTag:
                self.assertEqual(met.exception.tag, field)

    def test_told(self):
        self.assertEqual(grid_in(self.tree, (1,), 10), GRID)
        self.assertEqual(grid_in(self.tree, (2, 5, 0, 0), 10), GRID)

    def test_no_table_ahead_of_no_tag(self):
        for tag in (10, 0, None, "a", -1):
            self.refused(NoTable, self.tree, (3,), tag, (3,))
            self.refused(NoTable, self.tree, (2, 5, 1, 0), tag, (2, 5, 1, 0))
            self.refused(NoTable, self.tree, (1, 10, 0, 0), tag, (1, 10, 0, 0))
            self.refused(NoTable, self.tree, (10 ** 99,), tag, (10 ** 99,))
            for path in ODD + ([1], (1, 2), (-1,), (True,), ("1",)):
                self.refused(NoTable, self.tree, path, tag, None)

    def test_no_tag(self):
        for thing in ODD:
            tag = thing if type(thing) is int else None
            self.refused(NoTag, self.tree, (1,), thing, tag)
        self.refused(NoTag, self.tree, (0,), 10, 10)
        self.refused(NoTag, self.tree, (1,), 9, 9)
        # 11 to 14 are there, 15 isn't.
        self.refused(NoTag, self.tree, (1,), 11, 15)
        self.refused(NoTag, self.tree, (1,), 14, 15)
        self.refused(NoTag, self.tree, (1,), 3, 4)
        for k in range(5):
            table = tuple(self.entries[:k] + self.entries[k + 1:])
            self.refused(NoTag, ("small", (table,)), (0,), 10, 10 + k)
            self.refused(NoTag, ("small", (tuple(self.entries[:k]),)), (0,), 10, 10 + k)
        # What isn't there goes ahead of what is wrong.
        wrong = ((10, 4, "a"),) + tuple(self.entries[1:4])
        self.refused(NoTag, ("small", (wrong,)), (0,), 10, 14)
        last = tuple(grid_entries(65531, GRID, wide=2, high=2))
        self.assertEqual(grid_in(("small", (last,)), (0,), 65531), GRID)
        self.refused(NoTag, ("small", (last,)), (0,), 65532, 65536)
        self.refused(NoTag, ("small", (last,)), (0,), 65535, 65536)

    def with_entry(self, k, kind, worths):
        entries = self.entries[:k] + [(10 + k, kind, worths)] + self.entries[k + 1:]
        self.assertTrue(is_entry(entries[k]), entries[k])
        return ("great", (tuple(entries),))

    def test_no_grid(self):
        for k in range(4):
            was = self.entries[k][2]
            for kind, worths in ((1, was), (3, was), (4, "5"), (5, ()), (6, ()), (6, (was,)), (8, (0, 0, 0, 5)), (2, ()),
                                 (2, was * 2), (2, (0,)), (2, (31,) if k < 2 else ()), (7, (0, 5))):
                self.refused(NoGrid, self.with_entry(k, kind, worths), (0,), 10)
        tiles = self.entries[4][2]
        for kind, worths in ((6, ()), (6, tiles[1:]), (6, tiles + ((),)), (6, tiles[::-1]), (6, ((),) + tiles[1:]), (5, ()),
                             (1, (1, 2)), (2, (5,)), (4, "abc"), (9, (1, 2)), (6, (tiles[0] + (0,),) + tiles[1:])):
            self.refused(NoGrid, self.with_entry(4, kind, worths), (0,), 10)
        for k, number in ((0, 4), (0, 6), (0, 30), (1, 2), (1, 4), (2, 1), (2, 3), (2, 65535), (3, 1), (3, 3)):
            self.refused(NoGrid, self.with_entry(k, 2, (number,)), (0,), 10)


class PutTest(unittest.TestCase):
    def test_put_grid(self):
        for path in ((0,), (1, 5, 0, 0)):
            for tag in (0, 65531):
                deeds = put_grid(path, tag, GRID, wide=3, high=2)
                self.assertEqual(deeds, [("put", path, entry) for entry in grid_entries(tag, GRID, wide=3, high=2)])
                self.assertEqual([deed[2][0] for deed in deeds], [tag, tag + 1, tag + 2, tag + 3, tag + 4])
                self.assertIs(type(deeds), list)
                self.assertTrue(all([is_deed(deed) for deed in deeds]))
                tree = ("small", (((7000, 1, (1,)),), ((5, 5, (((),),)),)))
                for deed in deeds:
                    tree = done(tree, deed)
                self.assertEqual(grid_in(tree, path, tag), GRID)

    def test_put_number(self):
        row = Row(3)
        for wide, high in ((1, 1), (2, 2), (3, 2), (2, 3), (5, 1), (1, 3), (5, 3), (4, 2), (9, 9)):
            entries = tuple(grid_entries(9, GRID, wide=wide, high=high))
            tree = ("small", ((), entries))
            for at in range(3):
                for column in range(5):
                    was = GRID[at][column]
                    self.assertEqual(put_number(tree, (1,), 9, at, column, was), [])
                    number = (was + 1 + row.below(255)) % 256
                    deeds = put_number(tree, (1,), 9, at, column, number)
                    self.assertIs(type(deeds), list)
                    self.assertEqual(len(deeds), 1)
                    self.assertEqual(deeds[0][:3], ("piece", (1,), 13))
                    self.assertTrue(is_deed(deeds[0]))
                    aim = [list(numbers) for numbers in GRID]
                    aim[at][column] = number
                    self.assertEqual(grid_in(done(tree, deeds[0]), (1,), 9), tuple([tuple(numbers) for numbers in aim]))

    def test_corners_by_hand(self):
        tree = ("great", (tuple(grid_entries(1, GRID, wide=2, high=2)),))
        self.assertEqual(put_number(tree, (0,), 1, 0, 0, 9), [("piece", (0,), 5, 0, (9, 1, 10, 11))])
        self.assertEqual(put_number(tree, (0,), 1, 0, 4, 9), [("piece", (0,), 5, 2, (9, 14))])
        self.assertEqual(put_number(tree, (0,), 1, 2, 0, 9), [("piece", (0,), 5, 3, (9, 21))])
        self.assertEqual(put_number(tree, (0,), 1, 2, 4, 9), [("piece", (0,), 5, 5, (9,))])
        self.assertEqual(put_number(tree, (0,), 1, 1, 4, 9), [("piece", (0,), 5, 2, (4, 9))])
        self.assertEqual(put_number(tree, (0,), 1, 2, 4, 24), [])

    def test_in_files(self):
        for order in ORDERS:
            file = made((order, (((3, 1, (1,)),),)), room=1)
            for deed in put_grid((0,), 100, GRID, wide=2, high=2):
                strokes = strokes_of(file, deed)
                file = torn(file, strokes, len(strokes))
            self.assertEqual(grid_in(read(file), (0,), 100), GRID)
            for deed in put_number(read(file), (0,), 100, 2, 3, 200):
                strokes = strokes_of(file, deed)
                self.assertEqual(grid_in(read(torn(file, strokes, len(strokes) - 1)), (0,), 100), GRID)
                file = torn(file, strokes, len(strokes))
            self.assertEqual(grid_in(read(file), (0,), 100)[2], (20, 21, 22, 200, 24))
