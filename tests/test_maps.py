import unittest

from tests.building import ODD, ORDERS, laid, pointer, pointers, piece, table, variants
from tests.drawing import drawn_files
from tests.walking import Walk
from tornentries.errors import Spoilt
from tornentries.kinds import KNOWN
from tornentries.maps import cells_in, lets_map, map_of
from tornentries.reading import read

SOME_KNOWN = (KNOWN, (), (1, 4), (5,), (6,), (5, 6), (1, 2, 3, 4, 6))
SIGNS = (97,) * 8


def sample(order):
    """A file with parts of all sorts, shared ones too."""
    rows = [(1, 5, 2, 24), (2, 6, 2, 26), (3, 6, 2, 26), (4, 1, 8, 28), (9, 4, 7, 28)]
    return laid(order, 4, {
        4: table(order, 6, rows, 38), 24: pointers(order, 32, 0), 26: pointers(order, 34, 34), 28: SIGNS,
        32: table(order, 0, []), 34: piece(order, (1, 2, 3, 4, 5)), 38: table(order, 0, [])}, cells=43)


SAMPLE_MAP = [
    (0, 2, "head", ()),
    (2, 2, "spare", ()),
    (4, 20, "table", ((0,),)),
    (24, 2, "list", (((0,), 1),)),
    (26, 2, "list", (((0,), 2), ((0,), 3))),
    (28, 2, "worth", (((0,), 4), ((0,), 9))),
    (30, 2, "spare", ()),
    (32, 2, "table", ((0, 1, 0, 0),)),
    (34, 3, "piece", (((0,), 2, 0), ((0,), 2, 1), ((0,), 3, 0), ((0,), 3, 1))),
    (37, 1, "spare", ()),
    (38, 2, "table", ((1,),)),
    (40, 3, "spare", ()),
]


class MapTest(unittest.TestCase):
    def test_all_sorts(self):
        for order in ORDERS:
            self.assertEqual(map_of(sample(order)), SAMPLE_MAP)
            self.assertIs(type(map_of(sample(order))), list)

    def test_only_a_head(self):
        for order in ORDERS:
            self.assertEqual(map_of(laid(order, 0, {})), [(0, 2, "head", ())])
            self.assertEqual(map_of(laid(order, 0, {}, cells=9)), [(0, 2, "head", ()), (2, 7, "spare", ())])

    def test_unused_room_is_the_table(self):
        for order in ORDERS:
            file = laid(order, 2, {2: table(order, 40, [(1, 9, 0, 0)])})
            self.assertEqual(map_of(file)[1:], [(2, 122, "table", ((0,),))])

    def test_unsure_where_an_entry_is_raw(self):
        def make(order, rows):
            return laid(order, 3, {3: table(order, len(rows), rows), 20: SIGNS, 30: table(order, 1, [(5, 7, 0, 0)])}, cells=36)

        for order in ORDERS:
            table_at_3 = (3, 5, "table", ((0,),))
            # Raw without any worths, in the cell of the entry, elsewhere, and deep within.
            for kind, count in ((0, 0), (7, 0), (9, 4), (65535, 1)):
                self.assertEqual(map_of(make(order, [(1, kind, count, 0)])), [
                    (0, 2, "head", ()), (2, 1, "unsure", ()), table_at_3, (8, 28, "unsure", ())])
            self.assertEqual(map_of(make(order, [(1, 9, 8, 20)])), [
                (0, 2, "head", ()), (2, 1, "unsure", ()), table_at_3, (8, 12, "unsure", ()),
                (20, 2, "worth", (((0,), 1),)), (22, 14, "unsure", ())])
            self.assertEqual(map_of(make(order, [(1, 5, 1, 30)])), [
                (0, 2, "head", ()), (2, 1, "unsure", ()), table_at_3, (8, 22, "unsure", ()),
                (30, 5, "table", ((0, 1, 0, 0),)), (35, 1, "unsure", ())])
            self.assertEqual(map_of(make(order, [(1, 1, 8, 20)])), [
                (0, 2, "head", ()), (2, 1, "spare", ()), table_at_3, (8, 12, "spare", ()),
                (20, 2, "worth", (((0,), 1),)), (22, 14, "spare", ())])

    def test_fewer_known_kinds(self):
        for order in ORDERS:
            self.assertEqual(map_of(sample(order), known=(1, 2, 3, 4, 6)), [
                (0, 2, "head", ()), (2, 2, "unsure", ()), (4, 20, "table", ((0,),)), (24, 2, "worth", (((0,), 1),)),
                (26, 2, "list", (((0,), 2), ((0,), 3))), (28, 2, "worth", (((0,), 4), ((0,), 9))), (30, 4, "unsure", ()),
                (34, 3, "piece", (((0,), 2, 0), ((0,), 2, 1), ((0,), 3, 0), ((0,), 3, 1))), (37, 1, "unsure", ()),
                (38, 2, "table", ((1,),)), (40, 3, "unsure", ())])
            self.assertEqual(map_of(sample(order), known=()), [
                (0, 2, "head", ()), (2, 2, "unsure", ()), (4, 20, "table", ((0,),)), (24, 2, "worth", (((0,), 1),)),
                (26, 2, "worth", (((0,), 2), ((0,), 3))), (28, 2, "worth", (((0,), 4), ((0,), 9))), (30, 8, "unsure", ()),
                (38, 2, "table", ((1,),)), (40, 3, "unsure", ())])

    def test_another_root(self):
        for order in ORDERS:
            self.assertEqual(map_of(sample(order), root=0), [(0, 2, "head", ()), (2, 41, "spare", ())])
            self.assertEqual(map_of(sample(order), root=38), [
                (0, 2, "head", ()), (2, 36, "spare", ()), (38, 2, "table", ((0,),)), (40, 3, "spare", ())])
            self.assertEqual(map_of(sample(order), root=4), SAMPLE_MAP)

    def test_a_piece_of_none_with_a_cell(self):
        for order in ORDERS:
            file = laid(order, 2, {2: table(order, 1, [(1, 6, 1, 7)]), 7: pointer(order, 0)})
            self.assertEqual(map_of(file), [
                (0, 2, "head", ()), (2, 5, "table", ((0,),)), (7, 1, "piece", (((0,), 1, 0),))])

    def test_owners_rise(self):
        # The owner that is read last is the first one: (0, 2, ..) comes ahead of (1,).
        for order in ORDERS:
            file = laid(order, 2, {
                2: table(order, 2, [(1, 6, 3, 30), (2, 5, 1, 10)]), 10: table(order, 1, [(1, 6, 3, 30)], 15),
                15: table(order, 1, [(0, 6, 1, 33)]), 30: pointers(order, 33, 0, 33), 33: piece(order, (1,))})
            self.assertEqual(map_of(file)[4:], [
                (20, 10, "spare", ()),
                (30, 3, "list", (((0,), 1), ((0, 2, 0, 0), 1))),
                (33, 2, "piece", (((0,), 1, 0), ((0,), 1, 2), ((0, 2, 0, 0), 1, 0), ((0, 2, 0, 0), 1, 2),
                                  ((0, 2, 0, 1), 0, 0)))])

    def test_drawn_files(self):
        shared = 0
        for tree, file in drawn_files(120, least=20):
            for known in SOME_KNOWN:
                walk = Walk(file, known)
                told = map_of(file, known=known)
                self.assertEqual(told, walk.map())
                self.assertIs(lets_map(file, told, known=known), True)
                self.assertEqual(cells_in(file, known=known), tuple(walk.held()))
                shared += len([part for part in told if len(part[3]) > 1])
                for first in [row[0] for row in walk.tables.values()][:4]:
                    inner = Walk(file, known, first)
                    self.assertEqual(map_of(file, known=known, root=first), inner.map())
                    self.assertEqual(cells_in(file, known=known, root=first), tuple(inner.held()))
        self.assertGreater(shared, 300)

    def test_stretches_are_all_cells(self):
        for _, file in drawn_files(60, start=500):
            end = 0
            sorts = []
            for first, many, sort, owners in map_of(file):
                self.assertEqual(first, end)
                self.assertGreater(many, 0)
                self.assertEqual(owners, tuple(sorted(set(owners))))
                self.assertFalse(sort in ("spare", "unsure") and sorts[-1:] == [sort])
                sorts.append(sort)
                end += many
            self.assertEqual(end, len(file) // 4)
            self.assertFalse("spare" in sorts and "unsure" in sorts)

    def test_a_told_list_is_the_askers(self):
        file = sample("small")
        told = map_of(file)
        del told[3:]
        told.append(7)
        self.assertEqual(map_of(file), SAMPLE_MAP)
        self.assertIs(lets_map(file, SAMPLE_MAP), True)
        self.assertEqual(file, sample("small"))

    def test_refused_as_read_refuses(self):
        def fields(call):
            with self.assertRaises(Spoilt) as caught:
                call()
            return caught.exception.why, caught.exception.path, caught.exception.number

        for order in ORDERS:
            for file, told in ((sample(order)[:156], {}), (sample(order)[:4], {}), (sample(order), {"root": 1}),
                               (sample(order), {"root": 24}), (laid(order, 9, {}), {}),
                               (laid(order, 2, {2: table(order, 1, [(1, 4, 1, 1)])}), {})):
                why = fields(lambda: read(file, **told))
                self.assertEqual(fields(lambda: map_of(file, **told)), why)
                self.assertEqual(fields(lambda: cells_in(file, **told)), why)
            file = laid(order, 2, {2: table(order, 1, [(1, 4, 1, 1)])})
            self.assertEqual(map_of(file, known=(1,)), [(0, 2, "head", ()), (2, 5, "table", ((0,),))])


class LetsMapTest(unittest.TestCase):
    def test_one_thing_otherwise(self):
        met = 0
        for order in ORDERS:
            file = sample(order)
            self.assertIs(lets_map(file, [tuple(part) for part in SAMPLE_MAP]), True)
            for other in variants(SAMPLE_MAP):
                met += 1
                self.assertIs(lets_map(file, other), False, other)
        self.assertGreater(met, 500)

    def test_truths(self):
        for order in ORDERS:
            file = sample(order)
            for at, other in ((0, (False, 2, "head", ())), (3, (24, 2, "list", (((0,), True),))),
                              (3, (24, 2, "list", (((False,), 1),))), (9, (37, True, "spare", ())),
                              (7, (32, 2, "table", ((0, True, 0, 0),))),
                              (8, SAMPLE_MAP[8][:3] + ((((0,), 2, False),) + SAMPLE_MAP[8][3][1:],))):
                thing = SAMPLE_MAP[:at] + [other] + SAMPLE_MAP[at + 1:]
                self.assertEqual(thing, SAMPLE_MAP)
                self.assertIs(lets_map(file, thing), False)

    def test_stretches_parted_joined_left_out_moved(self):
        for order in ORDERS:
            file = sample(order)
            for at, (first, many, sort, owners) in enumerate(SAMPLE_MAP):
                for cut in range(1, many):
                    parts = [(first, cut, sort, owners), (first + cut, many - cut, sort, owners)]
                    self.assertIs(lets_map(file, SAMPLE_MAP[:at] + parts + SAMPLE_MAP[at + 1:]), False)
                self.assertIs(lets_map(file, SAMPLE_MAP[:at] + SAMPLE_MAP[at + 1:]), False)
                self.assertIs(lets_map(file, SAMPLE_MAP[:at] + SAMPLE_MAP[at:at + 2][::-1] + SAMPLE_MAP[at + 2:]),
                              at == len(SAMPLE_MAP) - 1)
                for other in ("spare", "unsure", "worth", "table", "list", "piece", "pieces", "head"):
                    thing = SAMPLE_MAP[:at] + [(first, many, other, owners)] + SAMPLE_MAP[at + 1:]
                    self.assertIs(lets_map(file, thing), other == sort)
            self.assertIs(lets_map(file, SAMPLE_MAP[:6] + [(30, 4, "spare", ())] + SAMPLE_MAP[8:]), False)

    def test_odd_things(self):
        for thing in ODD + (None, True, (), [], {}, tuple(SAMPLE_MAP), dict(enumerate(SAMPLE_MAP)), str(SAMPLE_MAP),
                            [list(part) for part in SAMPLE_MAP], [SAMPLE_MAP]):
            self.assertIs(lets_map(sample("small"), thing), False)

    def test_of_other_kinds_roots_and_files(self):
        for order in ORDERS:
            file = sample(order)
            other = map_of(file, known=(1, 2, 3, 4, 6))
            self.assertIs(lets_map(file, other), False)
            self.assertIs(lets_map(file, other, known=(1, 2, 3, 4, 6)), True)
            self.assertIs(lets_map(file, SAMPLE_MAP, known=(1, 2, 3, 4, 6)), False)
            self.assertIs(lets_map(file, map_of(file, root=38)), False)
            self.assertIs(lets_map(file, map_of(file, root=38), root=38), True)
            self.assertIs(lets_map(file, SAMPLE_MAP, root=38), False)
            self.assertIs(lets_map(file + (0, 0, 0, 0), SAMPLE_MAP), False)
            self.assertIs(lets_map(file[:-4], SAMPLE_MAP), False)

    def test_of_a_file_that_is_not_read(self):
        for order in ORDERS:
            for file in (sample(order)[:156], sample(order)[:4], (), laid(order, 1, {})):
                for thing in ODD + (SAMPLE_MAP, [(0, 2, "head", ())], []):
                    self.assertIs(lets_map(file, thing), False)
            self.assertIs(lets_map(sample(order), SAMPLE_MAP, root=1), False)


class CellsTest(unittest.TestCase):
    def test_all_but_spare_ones(self):
        for order in ORDERS:
            self.assertEqual(cells_in(sample(order)), tuple(
                [0, 1] + list(range(4, 30)) + [32, 33, 34, 35, 36, 38, 39]))
            self.assertIs(type(cells_in(sample(order))), tuple)
            self.assertEqual(cells_in(laid(order, 0, {}, cells=5)), (0, 1))

    def test_all_but_unsure_ones(self):
        for order in ORDERS:
            self.assertEqual(cells_in(sample(order), known=()), tuple([0, 1] + list(range(4, 30)) + [38, 39]))
            self.assertEqual(cells_in(sample(order), root=38), (0, 1, 38, 39))
