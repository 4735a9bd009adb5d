import unittest

from tests.building import ODD, ORDERS, laid, pair, piece, pointer, pointers, table
from tests.checking import check_strokes
from tests.deedmaking import drawn_deed
from tests.drawing import drawn_files
from tests.walking import Walk
from tests.writing import Row
from tornentries.cells import cell_of, stroked
from tornentries.cuts import torn
from tornentries.deeds import done
from tornentries.errors import NoDeed, NoPiece, NoShare, NoTable, NoTag, Spoilt, Taken, TooDeep, TooGreat, TooMany, TornError
from tornentries.kinds import KNOWN
from tornentries.maps import cells_in
from tornentries.reading import head_of, read
from tornentries.strokes import strokes_of

SEVENS = (7,) * 8


class StrokesTest(unittest.TestCase):
    def cells_of(self, make, deed, cells, **told):
        """Whether the strokes of the deed are at just these cells, in both orders, and are what is promised."""
        for order in ORDERS:
            with self.subTest((order, deed)):
                strokes = check_strokes(self, make(order), deed, **told)
                self.assertEqual([cell for cell, _ in strokes], cells)

    def checks(self, make, deed, test=None, **told):
        """Whether the strokes are what is promised, and what this test asks of them and of the walk ahead and behind."""
        for order in ORDERS:
            with self.subTest((order, deed)):
                file = make(order)
                strokes = check_strokes(self, file, deed, **told)
                if test:
                    known = told.get("known", KNOWN)
                    test(strokes, Walk(file, known), Walk(stroked(file, strokes), known))


def one_table(order, room=4, cells=0, first=2, **parts):
    """A table of two entries at cell 2, the second one with worths at cell 30."""
    rows = [(3, 1, 2, (1, 2, 9, 9)), (5, 9 if "raw" in parts else 2, 8 if "raw" in parts else 4, 30)]
    return laid(order, first, {first: table(order, room, rows), 30: SEVENS}, cells=cells)


class RoomTest(StrokesTest):
    """The table has room, isn't kept, and the tag is greater than all there."""

    def test_put(self):
        entries = ((6, 1, (5,)), (6, 1, ()), (6, 4, "abcd"), (65535, 3, (9,)), (6, 5, ()), (6, 5, ((),)), (6, 6, ((),)))
        for entry in entries:
            for raw in ({}, {"raw": True}):
                for room in (0, 2, 40):
                    self.cells_of(lambda order: one_table(order, **raw), ("put", (0,), entry), [9, 10, 11, 2], room=room)

    def test_put_with_worths_elsewhere(self):
        def ends(strokes, elder, fresh):
            self.assertEqual([cell for cell, _ in strokes[-4:-1]], [9, 10, 11])
            self.assertEqual(strokes[-1][0], 2)

        for entry in ((6, 1, (5,) * 9), (6, 4, "abcde"), (6, 6, ((1,), (1, 2, 3, 4, 5))), (6, 5, ((), ((), ((1, 1, (1,)),))))):
            for raw in ({}, {"raw": True}):
                for cells in (32, 33, 40, 80):
                    self.checks(lambda order: one_table(order, cells=cells, **raw), ("put", (0,), entry), ends)

    def test_the_last_room_and_none(self):
        self.cells_of(lambda order: one_table(order, room=3), ("put", (0,), (6, 1, (5,))), [9, 10, 11, 2])
        self.checks(lambda order: one_table(order, room=2), ("put", (0,), (6, 1, (5,))),
                    lambda strokes, elder, fresh: self.assertEqual(strokes[-1][0], 1))

    def test_a_table_without_entries(self):
        for tag in (0, 5, 65535):
            self.cells_of(lambda order: laid(order, 2, {2: table(order, 1, [])}), ("put", (0,), (tag, 1, (5,))), [3, 4, 5, 2])
            self.checks(lambda order: laid(order, 2, {2: table(order, 0, [])}), ("put", (0,), (tag, 1, (5,))))

    def test_a_tag_that_is_not_the_greatest(self):
        def anew(strokes, elder, fresh):
            self.assertEqual(strokes[-1][0], 1)
            self.assertNotEqual(fresh.tables[(0,)][0], 2)

        for tag in (0, 4):
            self.checks(one_table, ("put", (0,), (tag, 1, (5,))), anew)
            self.checks(one_table, ("share", (0,), tag, (0,), 5), anew)

    def test_share(self):
        self.cells_of(one_table, ("share", (0,), 6, (0,), 3), [9, 10, 11, 2])
        self.cells_of(one_table, ("share", (0,), 65535, (0,), 5), [9, 10, 11, 2])

    def test_where_some_cell_of_the_table_is_kept(self):
        for kept in ((2,), (9,), (11,), (2, 9, 10), tuple(range(2, 16))):
            for deed in (("put", (0,), (6, 1, (5,))), ("share", (0,), 6, (0,), 5)):
                def places(strokes, elder, fresh):
                    self.assertEqual([cell for cell, _ in strokes if cell in kept], [])
                    self.assertEqual(strokes[-1][0], 1)

                self.checks(one_table, deed, places, kept=kept)

    def test_in_a_table_deep_within(self):
        def make(order):
            return laid(order, 2, {2: table(order, 1, [(1, 5, 2, 10)]), 10: pointers(order, 0, 20),
                                   20: table(order, 1, [(1, 1, 8, 40)], 30), 30: table(order, 1, []), 40: SEVENS})

        self.cells_of(make, ("put", (0, 1, 1, 1), (6, 1, (5,))), [31, 32, 33, 30])
        self.cells_of(make, ("share", (0, 1, 1, 1), 6, (0, 1, 1, 0), 1), [31, 32, 33, 30])


class OneStrokeTest(StrokesTest):
    """Cut, chain's last one, out of the last entry, change of a worth in its cell."""

    @staticmethod
    def nested(order):
        """Two tables in the tree's chain; in the second one a chain alone, and a list of two."""
        return laid(order, 10, {
            10: table(order, 0, [], 20), 20: table(order, 3, [(1, 5, 1, 40), (2, 5, 2, 50)]),
            40: table(order, 0, [], 42), 42: table(order, 1, [(7, 1, 1, (5, 0, 0, 0))]), 50: pointers(order, 60, 62),
            60: table(order, 0, []), 62: table(order, 0, [], 64), 64: table(order, 0, [])}, cells=70)

    pointers = {(0,): 1, (1,): 11, (2,): 30, (1, 1, 0, 0): 23, (1, 1, 0, 1): 41, (1, 1, 0, 2): 46, (1, 2, 0, 0): 50,
                (1, 2, 0, 1): 61, (1, 2, 1, 0): 51, (1, 2, 1, 1): 63, (1, 2, 1, 2): 65}

    def test_cut(self):
        for path, cell in self.pointers.items():
            if path not in ((2,), (1, 1, 0, 2), (1, 2, 0, 1), (1, 2, 1, 2)):
                self.cells_of(self.nested, ("cut", path), [cell])
                everything_else = tuple([other for other in range(100) if other != cell])
                self.cells_of(self.nested, ("cut", path), [cell], kept=everything_else)

    def test_cut_where_the_pointer_is_kept(self):
        for path, cell in self.pointers.items():
            if path not in ((2,), (1, 1, 0, 2), (1, 2, 0, 1), (1, 2, 1, 2)):
                if cell == 1:
                    self.cells_of(self.nested, ("cut", path), [1], kept=tuple(range(70)))
                else:
                    self.checks(self.nested, ("cut", path), kept=(cell,))
                    self.checks(self.nested, ("cut", path), self.ends_at_the_head, kept=tuple(range(70)))

    def ends_at_the_head(self, strokes, elder, fresh):
        self.assertEqual(strokes[-1][0], 1)

    def test_chain(self):
        for path, cell in self.pointers.items():
            for brought in ((), ((3, 1, (5,) * 6), (4, 5, ((), ())))):
                self.checks(self.nested, ("chain", path, brought),
                            lambda strokes, elder, fresh: self.assertEqual(strokes[-1][0], cell))
                self.checks(self.nested, ("chain", path, brought), self.ends_at_the_head, kept=tuple(range(70)))
                if cell != 1:
                    self.checks(self.nested, ("chain", path, brought), kept=(cell,))

    def test_the_head_of_a_file_without_tables(self):
        for kept in ((), (0, 1)):
            self.checks(lambda order: laid(order, 0, {}), ("chain", (0,), ()), self.ends_at_the_head, kept=kept)

    def test_out_of_the_last_entry(self):
        for room in (2, 3, 40):
            self.cells_of(lambda order: one_table(order, room=room, first=50), ("out", (0,), 5), [50])
            self.cells_of(lambda order: one_table(order, room=room, first=50), ("out", (0,), 5), [50], kept=(0, 1, 30, 31))
        self.cells_of(self.nested, ("out", (1, 1, 0, 1), 7), [42])
        self.cells_of(self.nested, ("out", (1,), 2), [20])

    def test_out_of_another_entry_or_of_a_kept_table(self):
        self.checks(one_table, ("out", (0,), 3), self.ends_at_the_head)
        self.checks(one_table, ("out", (0,), 5), self.ends_at_the_head, kept=(2,))
        self.checks(one_table, ("out", (0,), 5), self.ends_at_the_head, kept=tuple(range(16)))

    def test_change_of_a_worth_in_its_cell(self):
        def make(kind, count):
            return lambda order: laid(order, 2, {2: table(order, 3, [(3, kind, count, (97, 0, 0, 0)), (5, 5, 0, 0)])})

        for kind, count, worths in ((1, 1, (5,)), (1, 4, (1, 2, 3, 4)), (2, 1, (300,)), (2, 2, (1, 2)), (3, 1, (2 ** 32 - 1,)),
                                    (4, 1, "b")):
            self.cells_of(make(kind, count), ("change", (0,), (3, kind, worths)), [5])
            self.checks(make(kind, count), ("change", (0,), (3, kind, worths)), self.ends_at_the_head, kept=(5,))
        # What is left of the cell may be anything.
        self.cells_of(one_table, ("change", (0,), (3, 1, (8, 9))), [5])

    def test_change_of_something_else(self):
        for entry in ((3, 1, (1, 2, 3)), (3, 1, (1,)), (3, 2, (7,)), (3, 4, "ab"), (3, 1, (1,) * 9), (5, 2, (1, 2, 3, 4)),
                      (5, 2, (1,)), (5, 1, (7,) * 8), (3, 5, ()), (5, 5, (((),),)), (3, 6, ((1,), (2,), ())), (5, 6, ((1,),))):
            for kept in ((), (0, 1, 2), (5,), tuple(range(60))):
                for raw in ({}, {"raw": True}):
                    self.checks(lambda order: one_table(order, **raw), ("change", (0,), entry), kept=kept)


class LaidAnewTest(StrokesTest):
    """The room of tables laid anew, and raw entries in them."""

    def test_room(self):
        for room in (0, 1, 2, 38, 39, 40):
            for deed, many in ((("put", (0,), (4, 1, ())), 3), (("out", (0,), 3), 1), (("share", (0,), 0, (0,), 3), 3),
                               (("change", (0,), (3, 4, "abcde")), 2)):
                def wide(strokes, elder, fresh):
                    self.assertEqual(fresh.tables[(0,)][1:], (many, min(40, many + room)))

                self.checks(one_table, deed, wide, room=room)
                self.checks(lambda order: one_table(order, raw=True), deed, wide, room=room)

    def test_room_where_none_is_told(self):
        for order in ORDERS:
            for deed in (("put", (0,), (4, 1, ())), ("out", (0,), 3)):
                self.assertEqual(strokes_of(one_table(order), deed), strokes_of(one_table(order), deed, room=2))
                self.assertEqual(strokes_of(one_table(order), deed), strokes_of(one_table(order), deed, known=KNOWN, kept=()))

    def test_other_tables_have_no_more_room_than_they_had(self):
        for path in ((0,), (1,), (1, 1, 0, 1), (1, 2, 1, 1)):
            for room in (0, 40):
                deeds = [("put", path, (0, 1, (1,) * 5)), ("put", path, (9, 5, (((), ((1, 1, ()),)),))),
                         ("chain", path, ((9, 5, (((), ((1, 1, ()),)),)),)), ("cut", path)]
                for deed in deeds:
                    for kept in ((), tuple(range(70)), tuple(range(2, 46))):
                        self.checks(OneStrokeTest.nested, deed, kept=kept, room=room)

    def test_raw_entries_stand_as_they_stood(self):
        def make(order):
            rows = [(1, 9, 2, (1, 2, 3, 4)), (2, 7, 0, (5, 6, 7, 8)), (3, 8, 2, 30), (4, 1, 1, (1, 1, 1, 1)), (5, 9, 0, (9, 9, 9, 9))]
            return laid(order, 2, {2: table(order, 5, rows), 30: SEVENS})

        def stood(strokes, elder, fresh):
            for tag in (1, 2, 3, 5):
                for k in range(3):
                    self.assertEqual(fresh.cell(fresh.entries[((0,), tag)] + k), elder.cell(elder.entries[((0,), tag)] + k))

        for deed in (("put", (0,), (0, 1, (5,) * 9)), ("put", (0,), (6, 4, "")), ("out", (0,), 4), ("change", (0,), (4, 6, ((),))),
                     ("share", (0,), 7, (0,), 4)):
            for kept in ((), tuple(range(40))):
                self.checks(make, deed, stood, kept=kept)

    def test_nothing_stands_in_unsure_cells(self):
        def behind(strokes, elder, fresh):
            self.assertTrue(all([cell >= len(elder.file) // 4 or cell == 1 for cell, _ in strokes]))

        for deed in (("put", (0,), (4, 1, (5,) * 9)), ("out", (0,), 3), ("chain", (0,), ((1, 1, (1,) * 20),))):
            self.checks(lambda order: one_table(order, cells=100, raw=True), deed, behind)
            self.checks(lambda order: one_table(order, cells=100), deed, behind, known=(1,))


class ShareTest(StrokesTest):
    def make(self, order):
        rows = [(1, 1, 8, 30), (2, 4, 5, 32), (3, 6, 2, 34), (4, 6, 1, 38), (5, 1, 3, (1, 2, 3, 9)), (6, 6, 0, (1, 2, 3, 4)),
                (7, 2, 4, 30)]
        return laid(order, 2, {2: table(order, 8, rows), 30: SEVENS, 32: (97,) * 8, 34: pointers(order, 36, 38),
                               36: piece(order, (1, 2)), 38: piece(order, (3,)), 40: table(order, 0, [])}, cells=44)

    def test_worths_are_then_the_twos(self):
        for other, first, sort in ((1, 30, "worth"), (2, 32, "worth"), (3, 34, "list"), (7, 30, "worth")):
            def shared(strokes, elder, fresh):
                self.assertIn(((0,), 9), [owners for (cell, _, kind), owners in fresh.parts.items()
                                          if (cell, kind) == (first, sort)][0])

            self.cells_of(self.make, ("share", (0,), 9, (0,), other), [24, 25, 26, 2])
            for kept in ((), tuple(range(44))):
                self.checks(self.make, ("share", (0,), 9, (0,), other), shared, kept=kept)
                self.checks(self.make, ("share", (0,), 0, (0,), 7), kept=kept)

    def test_a_piece_is_then_the_twos(self):
        def shared(strokes, elder, fresh):
            self.assertEqual(fresh.parts[(38, 2, "piece")], [((0,), 3, 1), ((0,), 4, 0), ((0,), 9, 0)])

        self.checks(self.make, ("share", (0,), 9, (0,), 4), shared)

    def test_what_stands_in_its_cell(self):
        for other in (5, 6):
            self.cells_of(self.make, ("share", (0,), 9, (0,), other), [24, 25, 26, 2])

    def test_from_another_table(self):
        for order in ORDERS:
            file = laid(order, 2, {2: table(order, 1, [(1, 1, 8, 30)], 10), 10: table(order, 1, []), 30: SEVENS})
            strokes = check_strokes(self, file, ("share", (1,), 1, (0,), 1))
            self.assertEqual([cell for cell, _ in strokes], [11, 12, 13, 10])
            self.assertEqual(Walk(stroked(file, strokes)).parts[(30, 2, "worth")], [((0,), 1), ((1,), 1)])


class PieceTest(StrokesTest):
    def make(self, order, **told):
        rows = [(1, 6, 2, 30), (2, 6, 2, 30), (3, 6, 2, 32), (4, 6, 1, 36), (5, told.get("kind", 1), 0, 0)]
        return laid(order, 2, {2: table(order, 5, rows), 30: pointers(order, 34, 36), 32: pointers(order, 34, 34),
                               34: piece(order, (1, 2)), 36: piece(order, (3,))}, cells=60)

    def test_others_of_the_same_list_and_piece_stay(self):
        for tag in (1, 2, 3, 4):
            for k in range(2 if tag < 4 else 1):
                for fresh in ((), (1, 2), (9,) * 30):
                    for kept in ((), tuple(range(38)), (17,), (32, 33), (14, 17)):
                        self.checks(self.make, ("piece", (0,), tag, k, fresh), kept=kept)
                        self.checks(lambda order: self.make(order, kind=9), ("piece", (0,), tag, k, fresh), kept=kept)

    def test_a_list_that_a_raw_entry_may_lead_to_stays(self):
        # To who doesn't know kind 5 the list of entry 1 is that entry's alone, but it is an inner table's, too.
        def make(order):
            return laid(order, 2, {2: table(order, 2, [(1, 6, 2, 30), (2, 5, 1, 20)]), 20: table(order, 1, [(1, 6, 2, 30)]),
                                   30: pointers(order, 34, 34), 34: piece(order, (1,))})

        for order in ORDERS:
            for kept in ((), tuple(range(36))):
                strokes = check_strokes(self, make(order), ("piece", (0,), 1, 0, (9, 9)), known=(1, 2, 3, 4, 6), kept=kept)
                told = done(read(make(order)), ("piece", (0,), 1, 0, (9, 9)))
                self.assertEqual(read(stroked(make(order), strokes)), told)


class LengthTest(StrokesTest):
    """Where a spare stretch has as many cells as there are strokes, the file isn't longer."""

    def test_stretches_of_each_length(self):
        for deed in (("put", (0,), (0, 1, (5,) * 9)), ("put", (0,), (9, 5, (((), ()), (((1, 6, ((1,), (2,))),),)))),
                     ("out", (0,), 3), ("change", (0,), (3, 4, "abcdefgh")), ("chain", (0,), ((1, 1, (1,) * 7), (2, 5, ((), ())))),
                     ("chain", (1,), ())):
            for order in ORDERS:
                for room in (0, 2, 40):
                    many = len(strokes_of(shifted(order, 0), deed, room=room))
                    for spare in list(range(max(0, many - 9), many + 2)) + [2 * many]:
                        file = shifted(order, spare)
                        strokes = check_strokes(self, file, deed, room=room)
                        self.assertEqual(len(strokes), many)
                        if spare >= many:
                            self.assertEqual(len(stroked(file, strokes)), len(file))

    def test_stretches_that_are_kept(self):
        for order in ORDERS:
            file = one_table(order, cells=200)
            deed = ("put", (0,), (0, 1, (5,) * 9))
            strokes = check_strokes(self, file, deed, kept=tuple(range(32, 199)))
            self.assertGreater(len(stroked(file, strokes)), len(file))
            strokes = check_strokes(self, file, deed, kept=tuple(range(32, 170)) + (190,))
            self.assertEqual(len(stroked(file, strokes)), len(file))
            strokes = check_strokes(self, file, deed, kept=tuple(range(200, 1000)))
            self.assertEqual(len(stroked(file, strokes)), len(file))

    def test_spare_cells_may_have_anything_in_them(self):
        for order in ORDERS:
            for junk in (0, 60, 255):
                file = laid(order, 30, {30: table(order, 1, [(1, 1, 0, 0)])}, junk=junk, cells=90)
                for deed in (("put", (0,), (0, 1, (5,) * 9)), ("out", (0,), 1), ("chain", (0,), ())):
                    strokes = check_strokes(self, file, deed)
                    self.assertEqual(len(stroked(file, strokes)), len(file))


def shifted(order, spare):
    """A table of two entries behind so many spare cells, and its worths close behind it."""
    first = 2 + spare
    rows = [(3, 1, 2, (1, 2, 9, 9)), (5, 2, 4, first + 8)]
    return laid(order, first, {first: table(order, 2, rows), first + 8: SEVENS})


class NoneTest(StrokesTest):
    def test_where_deed_and_tree_give_the_same_tree(self):
        def make(order):
            rows = [(1, 1, 2, (5, 6, 9, 9)), (2, 4, 8, 30), (3, 6, 2, 32), (4, 5, 1, 36), (5, 6, 1, 35)]
            return laid(order, 2, {2: table(order, 6, rows), 30: (97,) * 8, 32: pointers(order, 34, 0), 34: pointer(order, 0),
                                   35: pointer(order, 0), 36: table(order, 2, [])})

        for kept in ((), tuple(range(1000))):
            for deed in (("change", (0,), (1, 1, (5, 6))), ("change", (0,), (2, 4, "aaaaaaaa")), ("change", (0,), (3, 6, ((), ()))),
                         ("change", (0,), (4, 5, (((),),))), ("piece", (0,), 3, 0, ()), ("piece", (0,), 3, 1, ()),
                         ("piece", (0,), 5, 0, ())):
                self.cells_of(make, deed, [], kept=kept)


class RefusalTest(StrokesTest):
    def refuses(self, error, make, deed, fields=(), **told):
        for order in ORDERS:
            file = make(order)
            kept = tuple(list(file))
            with self.assertRaises(error, msg=deed) as caught:
                strokes_of(file, deed, **told)
            self.assertIs(type(caught.exception), error)
            for name, field in fields:
                self.assertEqual(getattr(caught.exception, name), field)
            self.assertEqual(file, kept)

    def test_spoilt(self):
        for deed in ODD + (("put", (0,), (4, 1, ())), ("cut", (9,))):
            self.refuses(Spoilt, lambda order: (0,) * 40, deed, [("why", "head"), ("path", ()), ("number", None)])
            self.refuses(Spoilt, lambda order: laid(order, 9, {}), deed, [("why", "beyond"), ("path", (0,))])
            self.refuses(Spoilt, lambda order: laid(order, 2, {2: table(order, 1, [(1, 4, 1, 1)])}), deed,
                         [("why", "sign"), ("number", 0)], kept=tuple(range(1000)))

    def test_as_done_refuses(self):
        everything = tuple(range(1000))
        for kept in ((), everything):
            for thing in ODD:
                self.refuses(NoDeed, one_table, thing, kept=kept)
            self.refuses(NoDeed, one_table, ("put", (0,), (4, 9, ())), kept=kept)
            self.refuses(NoDeed, one_table, ("put", (0,), (4, 2, ())), known=(1,), kept=kept)
            self.refuses(NoTable, one_table, ("put", (1,), (4, 1, ())), [("path", (1,))], kept=kept)
            self.refuses(NoTable, one_table, ("chain", (2,), ()), [("path", (2,))], kept=kept)
            self.refuses(NoTag, one_table, ("out", (0,), 4), [("tag", 4)], kept=kept)
            self.refuses(NoTag, one_table, ("piece", (0,), 5, 0, ()), [("tag", 5)], kept=kept)
            self.refuses(NoShare, lambda order: one_table(order, raw=True), ("share", (0,), 3, (0,), 5), kept=kept)
            self.refuses(Taken, one_table, ("share", (0,), 3, (0,), 5), [("tag", 3)], kept=kept)
            self.refuses(NoPiece, lambda order: laid(order, 2, {2: table(order, 1, [(1, 6, 0, 0)])}),
                         ("piece", (0,), 1, 0, ()), [("k", 0)], kept=kept)
            self.refuses(TooMany, lambda order: laid(order, 2, {2: table(order, 40, [(tag, 1, 0, 0) for tag in range(40)])}),
                         ("put", (0,), (40, 1, ())), kept=kept)
            self.refuses(TooDeep, OneStrokeTest.nested, ("put", (1, 1, 0, 0), (1, 5, ((((1, 5, ((((1, 5, (((),),)),),),)),),),))),
                         kept=kept)

    def test_too_great(self):
        behind = tuple(range(16, 1000))
        for deed in (("put", (0,), (4, 1, ())), ("put", (0,), (6, 1, (1,) * 5)), ("out", (0,), 3), ("chain", (0,), ()),
                     ("change", (0,), (5, 4, "abcde")), ("share", (0,), 4, (0,), 3)):
            self.refuses(TooGreat, one_table, deed, kept=behind)
            self.refuses(TooGreat, lambda order: one_table(order, raw=True), deed, kept=tuple(range(32, 1000)))
            self.refuses(TooGreat, one_table, deed, kept=tuple(range(2, 1000)))

    def test_where_none_beyond_are_wanted(self):
        behind = tuple(range(16, 1000))
        for deed in (("put", (0,), (6, 1, (1,) * 4)), ("out", (0,), 5), ("share", (0,), 6, (0,), 5), ("cut", (0,)),
                     ("change", (0,), (3, 1, (4, 4))), ("change", (0,), (3, 1, (1, 2)))):
            self.checks(one_table, deed, kept=behind)
        self.cells_of(one_table, ("cut", (0,)), [1], kept=tuple(range(1000)))

    def test_the_last_cells_that_a_file_may_have(self):
        for order in ORDERS:
            file = laid(order, 2, {2: table(order, 1, [(1, 1, 0, 0)]), 7: (0,) * 4 * 980})
            self.assertEqual(len(file), 4 * 987)
            for many, told in ((13, True), (14, False)):
                deed = ("chain", (1,), ((1, 1, (1,) * 4 * (many - 5)),))
                kept = tuple(range(7, 987))
                if told:
                    strokes = strokes_of(file, deed, kept=kept)
                    self.assertEqual(len(stroked(file, strokes)), 4000)
                    self.assertEqual(read(stroked(file, strokes)), done(read(file), deed))
                else:
                    self.refuses(TooGreat, lambda _: file, deed, kept=kept)
                    self.assertEqual(read(stroked(file, strokes_of(file, deed))), done(read(file), deed))


class DrawnTest(unittest.TestCase):
    known = (KNOWN, KNOWN, (1, 4, 5), (1, 2, 3, 4, 6), (5, 6), (1,))

    def test_all_that_is_promised(self):
        words = {}
        for raw in (False, True):
            for gaps in (3, 30):
                for at, (_, file) in enumerate(drawn_files(40, least=24, raw=raw, gaps=gaps)):
                    row = Row(at)
                    for _ in range(9):
                        word = self.one_deed(row, file)
                        words[word] = words.get(word, 0) + 1
        self.assertEqual(len(set(words) - {None}), 7)
        self.assertGreater(min(words.values()), 10, words)

    def one_deed(self, row, file):
        """A deed drawn for the file, and what is promised of its strokes; its word, or None where it is refused."""
        known = self.known[row.below(len(self.known))]
        tree = read(file, known=known)
        deed = drawn_deed(row, tree, known)
        try:
            done(tree, deed, known=known)
        except TornError:
            return None
        some = tuple(sorted({row.below(len(file) // 4 + 5) for _ in range(row.below(60))}))
        kept = ((), (), tuple(Walk(file, known).held()), some)[row.below(4)]
        check_strokes(self, file, deed, known, kept, (None, 0, 2, 40, 7)[row.below(5)])
        return deed[0]

    def test_readers_of_elder_files(self):
        stood = 0
        for raw in (False, True):
            for at, (_, file) in enumerate(drawn_files(12, least=20, most=90, raw=raw)):
                stood += self.with_readers(file, Row(at), self.known[at % 3])
        self.assertGreater(stood, 100)

    def with_readers(self, file, row, known):
        """Deeds on a file while readers come and leave; each reads what it read at each stroke; how many did."""
        readers = []
        stood = 0
        for _ in range(14):
            if row.below(3) == 0:
                root = head_of(file)[1]
                readers.append((root, read(file, known=known), cells_in(file, known=known)))
            if readers and row.below(6) == 0:
                del readers[row.below(len(readers))]
            kept = tuple(sorted({cell for _, _, cells in readers for cell in cells}))
            deed = drawn_deed(row, read(file, known=known), known)
            try:
                done(read(file, known=known), deed, known=known)
            except TornError:
                continue
            strokes = check_strokes(self, file, deed, known, kept, row.below(4))
            for many in range(len(strokes) + 1):
                for root, tree, _ in readers:
                    self.assertEqual(read(torn(file, strokes, many), known=known, root=root), tree)
                    stood += 1
            file = stroked(file, strokes)
            if len(file) > 800:
                break
        return stood

    def test_who_knows_few_kinds_changes_nothing_of_the_others(self):
        told = 0
        for at, (_, file) in enumerate(drawn_files(60, least=24, raw=False)):
            row = Row(at)
            for known in ((1, 2, 3, 4, 6), (5, 6), (1,)):
                tree = read(file, known=known)
                for _ in range(4):
                    deed = drawn_deed(row, tree, known)
                    try:
                        done(tree, deed, known=known)
                    except TornError:
                        continue
                    strokes = strokes_of(file, deed, known=known)
                    self.assertEqual(read(stroked(file, strokes)), done(read(file), deed))
                    told += 1
        self.assertGreater(told, 200)

    def test_what_was_handed_in_stays(self):
        file = one_table("small")
        kept = [2, 3]
        strokes = strokes_of(file, ("put", (0,), (9, 1, (1,))), kept=kept)
        again = strokes_of(file, ("put", (0,), (9, 1, (1,))), kept=kept)
        self.assertEqual((kept, strokes), ([2, 3], again))
        strokes.clear()
        self.assertNotEqual(strokes_of(file, ("put", (0,), (9, 1, (1,))), kept=kept), [])
        self.assertEqual(cell_of(file, 2), pair("small", 2, 4))
