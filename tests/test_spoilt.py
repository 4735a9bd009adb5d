import unittest

from tests.building import ORDERS, entry, filled, laid, pair, piece, pointer, pointers, table
from tornentries.errors import Spoilt
from tornentries.kinds import KNOWN
from tornentries.reading import read

SAME = (7, 7, 7, 7)


class SpoiltTest(unittest.TestCase):
    def spoilt(self, make, why, path, number=None, **told):
        """Whether what make lays out is refused so in both orders, and stays as it was."""
        for order in ORDERS:
            with self.subTest(order):
                file = make(order)
                kept = tuple(list(file))
                with self.assertRaises(Spoilt) as caught:
                    read(file, **told)
                error = caught.exception
                self.assertEqual((error.why, error.path, error.number), (why, path, number))
                self.assertEqual(file, kept)

    def reads(self, make, **told):
        for order in ORDERS:
            with self.subTest(order):
                self.assertEqual(read(make(order), **told)[0], order)

    def spoilt_entries(self, entries, parts, why, number, *, cells=0, **told):
        """The same of one table of these entries at cell 2, and parts elsewhere, both told for an order."""
        def make(order):
            rows = entries(order)
            return laid(order, 2, {2: table(order, len(rows), rows), **parts(order)}, cells=cells)

        self.spoilt(make, why, (0,), number, **told)

    def entries_read(self, entries, parts, *, cells=0, **told):
        def make(order):
            rows = entries(order)
            return laid(order, 2, {2: table(order, len(rows), rows), **parts(order)}, cells=cells)

        self.reads(make, **told)


class TableTest(SpoiltTest):
    def test_ring_in_a_chain(self):
        self.spoilt(lambda order: laid(order, 2, {2: table(order, 0, [], 2)}), "ring", (1,))
        self.spoilt(lambda order: laid(order, 2, {2: table(order, 1, [], 9), 9: table(order, 0, [], 2)}), "ring", (2,))
        self.spoilt(lambda order: laid(order, 2, {
            2: table(order, 0, [], 9), 9: table(order, 0, [], 20), 20: table(order, 0, [], 9)}), "ring", (3,))

    def test_ring_within_tables(self):
        self.spoilt(lambda order: laid(order, 2, {2: table(order, 1, [(5, 5, 1, 2)])}), "ring", (0, 5, 0, 0))

        def deep(last, following=0):
            return lambda order: laid(order, 2, {
                2: table(order, 0, [], 10), 10: table(order, 1, [(1, 5, 2, 20)]), 20: pointers(order, 0, 30),
                30: table(order, 1, [(2, 5, 1, 40)]), 40: table(order, 1, [(3, 5, 1, 50)]),
                50: table(order, 1, [(4, 5, 1, last)], following)})

        third = (1, 1, 1, 0, 2, 0, 0, 3, 0, 0)
        for last in (10, 30, 40, 50):
            self.spoilt(deep(last), "ring", third + (4, 0, 0))
            self.spoilt(deep(0, last), "ring", third[:-1] + (1,))
        # A table ahead of one in which it stands is another matter.
        self.spoilt(deep(2), "crossed", third + (4, 0, 0))
        self.spoilt(deep(0, 2), "crossed", third[:-1] + (1,))

    def test_beyond(self):
        for first in (1, 2, 3, 999, 2 ** 32 - 1):
            self.spoilt(lambda order: laid(order, first, {}), "beyond", (0,))
        for first in (1, 4, 5, 999, 2 ** 32 - 1):
            self.spoilt(lambda order: laid(order, 2, {2: table(order, 0, [], first)}), "beyond", (1,))
        for first in (1, 7, 8, 999, 2 ** 32 - 1):
            self.spoilt(lambda order: laid(order, 2, {2: table(order, 1, [(9, 5, 1, first)])}), "beyond", (0, 9, 0, 0))

    def test_some_cell_beyond(self):
        for room in range(5):
            whole = 2 + 2 + 3 * room
            for missing in range(1, 2 + 3 * room):
                self.spoilt(lambda order: laid(order, 2, {2: table(order, room, [])})[:4 * (whole - missing)], "beyond", (0,))
            self.reads(lambda order: laid(order, 2, {2: table(order, room, [])}))

    def test_room(self):
        self.spoilt(lambda order: laid(order, 2, {2: table(order, 0, [], many=1)}, cells=200), "room", (0,))
        self.spoilt(lambda order: laid(order, 2, {2: table(order, 3, [], many=4)}, cells=200), "room", (0,))
        self.spoilt(lambda order: laid(order, 2, {2: table(order, 41, [])}, cells=200), "room", (0,))
        self.spoilt(lambda order: laid(order, 2, {2: pair(order, 0, 65535)}, cells=200), "room", (0,))
        self.spoilt(lambda order: laid(order, 2, {2: table(order, 0, [], 4), 4: pair(order, 41, 41)}), "room", (1,))
        self.reads(lambda order: laid(order, 2, {2: table(order, 40, [])}, cells=200))

    def test_crossed_tables(self):
        # The table at cell 10 has the cells to 17; those from 14 to 16 are room that isn't used.
        def make(first, numbers):
            return lambda order: laid(order, 10, {
                10: table(order, 2, [(1, 1, 1, SAME)], first), first: numbers(order)}, cells=60)

        for first, room in ((14, 0), (15, 0), (8, 1), (9, 0), (9, 5), (3, 5), (16, 0), (14, 9)):
            self.spoilt(make(first, lambda order: pair(order, 0, room)), "crossed", (1,))
        for first, room in ((18, 0), (18, 3), (8, 0), (5, 1)):
            self.reads(make(first, lambda order: table(order, room, [])))

    def test_a_table_used_twice(self):
        self.spoilt(lambda order: laid(order, 2, {
            2: table(order, 2, [(1, 5, 1, 20), (2, 5, 1, 20)]), 20: table(order, 0, [])}), "crossed", (0, 2, 0, 0))
        self.spoilt(lambda order: laid(order, 2, {
            2: table(order, 1, [(1, 5, 2, 30)]), 20: table(order, 0, []), 30: pointers(order, 20, 20)}),
            "crossed", (0, 1, 1, 0))
        self.spoilt(lambda order: laid(order, 2, {
            2: table(order, 1, [(1, 5, 1, 20)], 20), 20: table(order, 0, [])}), "crossed", (1,))

    def test_tables_cross_worths(self):
        for room, first in ((0, 20), (0, 21), (0, 19), (2, 14)):
            self.spoilt(lambda order: laid(order, 2, {
                2: table(order, 1, [(1, 1, 8, 20)], first), 20: (0,) * 8, first: pair(order, 0, room)}, cells=60), "crossed", (1,))

    def test_long(self):
        def make(many, last=0, numbers=()):
            def laid_out(order):
                parts = {2 + 2 * n: table(order, 0, [], 4 + 2 * n if n < many - 1 else last) for n in range(many)}
                return laid(order, 2, parts) + (pair(order, *numbers) if numbers else ())
            return laid_out

        self.reads(make(10))
        self.spoilt(make(11), "long", (10,))
        self.spoilt(make(12), "long", (10,))
        self.spoilt(make(11, 2), "long", (10,))
        # The eleventh is at cell 22, and may be refused for something else ahead of that.
        self.spoilt(make(10, 4), "ring", (10,))
        self.spoilt(make(10, 1), "beyond", (10,))
        self.spoilt(make(10, 22), "beyond", (10,))
        self.spoilt(make(10, 22, (1, 0)), "room", (10,))
        self.spoilt(make(10, 22, (0, 0)), "beyond", (10,))

    def test_crossed_ahead_of_long(self):
        def make(last):
            def laid_out(order):
                parts = {2: table(order, 1, [], 10)}
                parts.update({10 + 2 * n: table(order, 0, [], 12 + 2 * n if n < 8 else last) for n in range(9)})
                return laid(order, 2, {**parts, 4: pair(order, 0, 0), 40: table(order, 0, [])})
            return laid_out

        self.reads(make(0))
        self.spoilt(make(4), "crossed", (10,))
        self.spoilt(make(40), "long", (10,))

    def test_long_within(self):
        def make(order):
            parts = {20 + 2 * n: table(order, 0, [], 22 + 2 * n if n < 10 else 0) for n in range(11)}
            return laid(order, 2, {2: table(order, 1, [(8, 5, 2, 10)]), 10: pointers(order, 0, 20), **parts})

        self.spoilt(make, "long", (0, 8, 1, 10))

    def test_long_ahead_of_deep(self):
        # The fifth chain is refused at its first table, so no table is too long and too deep at once.
        def make(order):
            parts = {40 + 2 * n: table(order, 0, [], 42 + 2 * n if n < 10 else 0) for n in range(11)}
            rows = {2 + 8 * n: table(order, 1, [(1, 5, 1, 10 + 8 * n if n < 3 else 40)]) for n in range(4)}
            return laid(order, 2, {**rows, **parts})

        self.spoilt(make, "deep", (0, 1, 0, 0, 1, 0, 0, 1, 0, 0, 1, 0, 0))

    def test_deep(self):
        def make(last, parts):
            return lambda order: laid(order, 2, {
                2: table(order, 1, [(1, 5, 1, 10)]), 10: table(order, 1, [(2, 5, 1, 20)]),
                20: table(order, 1, [(3, 5, 1, 30)]), 30: table(order, 1, [(4, 5, 1, last)]), **parts(order)})

        path = (0, 1, 0, 0, 2, 0, 0, 3, 0, 0, 4, 0, 0)
        self.reads(make(0, lambda order: {}))
        self.spoilt(make(40, lambda order: {40: table(order, 0, [])}), "deep", path)
        self.spoilt(make(40, lambda order: {40: table(order, 1, [(1, 1, 301, 0)], 40)}), "deep", path)
        self.spoilt(make(20, lambda order: {}), "ring", path)
        self.spoilt(make(40, lambda order: {}), "beyond", path)
        self.spoilt(make(40, lambda order: {40: pair(order, 1, 0)}), "room", path)
        self.spoilt(make(40, lambda order: {40: pair(order, 0, 0)}), "beyond", path)
        self.spoilt(make(28, lambda order: {28: pair(order, 0, 1)}), "crossed", path)

    def test_ahead_of_others(self):
        # The head's root leads nowhere, and so does an entry of the table that another root leads to.
        def make(order):
            return laid(order, 999, {2: table(order, 1, [(1, 1, 5, 777)])})

        self.spoilt(make, "beyond", (0,))
        self.spoilt(make, "beyond", (0,), 0, root=2)
        self.spoilt(make, "beyond", (0,), root=1)
        self.spoilt(make, "beyond", (0,), root=7)
        self.spoilt(make, "beyond", (0,), root=2 ** 32 - 1)
        self.spoilt(lambda order: laid(order, 2, {2: table(order, 0, [], 9), 9: table(order, 0, [], 9)}), "ring", (1,), root=9)

    def test_room_is_asked_ahead_of_cells(self):
        self.spoilt(lambda order: laid(order, 2, {2: pair(order, 0, 41)}), "room", (0,))
        self.spoilt(lambda order: laid(order, 2, {2: pair(order, 2, 1)}), "room", (0,))
        self.spoilt(lambda order: laid(order, 2, {2: pair(order, 1, 1)}), "beyond", (0,))

    def test_beyond_is_asked_ahead_of_crossed(self):
        # The next table would begin in the room of the one ahead that isn't used, and leave the file.
        self.spoilt(lambda order: laid(order, 2, {2: table(order, 1, [], 5), 5: pair(order, 0, 9)}), "beyond", (1,))
        self.spoilt(lambda order: laid(order, 2, {2: table(order, 1, [], 4), 4: pair(order, 0, 0)}), "crossed", (1,))


class EntryTest(SpoiltTest):
    def test_tags(self):
        for tags, number in (((1, 1), 1), ((2, 1), 1), ((1, 2, 2), 2), ((0, 0), 1), ((1, 5, 4, 3), 2), ((65535, 0), 1)):
            self.spoilt_entries(lambda order: [(tag, 1, 1, SAME) for tag in tags], lambda order: {}, "tags", number)

    def test_tags_ahead_of_many(self):
        self.spoilt_entries(lambda order: [(1, 1, 1, SAME), (1, 1, 301, 999)], lambda order: {}, "tags", 1)

    def test_many(self):
        for kind in (0, 1, 2, 3, 4, 5, 6, 7, 8, 9, 65535):
            for count in (301, 302, 65536, 2 ** 32 - 1):
                self.spoilt_entries(lambda order: [(1, 9, 0, 0), (2, kind, count, 10)], lambda order: {}, "many", 1)
                self.spoilt_entries(lambda order: [(1, 9, 0, 0), (2, kind, count, 10)], lambda order: {}, "many", 1, known=())
            fill = (97,) if kind == 4 else (0,)
            self.entries_read(lambda order: [(2, kind, 300, 10)], lambda order: {10: fill * 1200})

    def test_many_ahead_of_beyond(self):
        self.spoilt_entries(lambda order: [(1, 1, 301, 1)], lambda order: {}, "many", 0)

    def test_beyond(self):
        for kind, count in ((1, 5), (2, 3), (3, 2), (4, 5), (5, 2), (6, 2), (9, 5), (7, 3), (8, 2)):
            for first in (0, 1, 10, 11, 2 ** 32 - 1):
                for known in (KNOWN, ()):
                    self.spoilt_entries(lambda order: [(2, kind, count, first)], lambda order: {}, "beyond", 0, cells=11,
                                        known=known)
            self.entries_read(lambda order: [(2, kind, count, 9)], lambda order: {9: (0,) * 8 if kind != 4 else (97,) * 8})

    def test_how_many_cells_are_needed(self):
        for kind, count, cells in ((1, 300, 75), (1, 297, 75), (1, 296, 74), (2, 300, 150), (2, 5, 3), (3, 300, 300), (4, 9, 3),
                                   (6, 300, 300), (7, 5, 3), (8, 7, 7), (9, 7, 2)):
            fill = (97,) if kind == 4 else (0,)
            self.entries_read(lambda order: [(2, kind, count, 10)], lambda order: {10: fill * (4 * cells)})
            self.spoilt_entries(lambda order: [(2, kind, count, 10)], lambda order: {10: fill * (4 * cells - 4)}, "beyond", 0)

    def test_beyond_ahead_of_crossed(self):
        self.spoilt_entries(lambda order: [(1, 1, 8, 20), (2, 1, 8, 21)], lambda order: {}, "beyond", 1, cells=22)
        self.spoilt_entries(lambda order: [(1, 1, 8, 20), (2, 1, 8, 21)], lambda order: {}, "crossed", 1, cells=23)

    def test_crossed_by_tables(self):
        for first in (2, 3, 4, 5, 6):
            self.spoilt_entries(lambda order: [(1, 1, 8, first)], lambda order: {}, "crossed", 0, cells=30)
            self.spoilt_entries(lambda order: [(1, 9, 8, first)], lambda order: {}, "crossed", 0, cells=30)

    def test_crossed_worths(self):
        def both(first, count, kind=1, **told):
            return (lambda order: [(1, 1, 12, 20), (2, kind, count, first)], lambda order: {}), told

        for first, count in ((20, 8), (20, 16), (21, 8), (21, 12), (19, 12), (18, 12), (22, 5), (19, 8), (19, 20), (20, 7)):
            rows, told = both(first, count)
            self.spoilt_entries(*rows, "crossed", 1, cells=60)
            rows, told = both(first, count, 9)
            self.spoilt_entries(*rows, "crossed", 1, cells=60)
        for first, count in ((20, 12), (20, 9), (20, 10), (23, 12), (17, 12)):
            rows, told = both(first, count)
            self.entries_read(*rows, cells=60)

    def test_crossed_sorts(self):
        # Each of these has the cells 20 and 21. As a list these lead to cell 4, an empty table as well as a piece of
        # none, and to none; as a piece they are four numbers.
        rows = {"worth": (1, 8), "raw": (9, 8), "chains": (5, 2), "pieces": (6, 2), "piece": (6, 1)}
        for one, (kind, count) in rows.items():
            for other, (other_kind, other_count) in rows.items():
                def make(order):
                    entries = [(1, kind, count, 20), (2, other_kind, other_count, 20)]
                    return laid(order, 30, {
                        4: table(order, 0, []), 20: pointers(order, 4, 0), 30: table(order, 2, entries)})

                with self.subTest((one, other)):
                    if one == other != "chains" or (one in ("worth", "raw") and other in ("worth", "raw")):
                        self.reads(make)
                    else:
                        self.spoilt(make, "crossed", (0,), 1)

    def test_crossed_where_fewer_kinds_are_known(self):
        entries = [(1, 5, 2, 20), (2, 5, 2, 20), (3, 6, 2, 20), (4, 1, 8, 20)]

        def make(order):
            return laid(order, 2, {2: table(order, 4, entries), 20: (0,) * 8})

        self.reads(make, known=())
        self.reads(make, known=(1, 2, 3, 4))
        self.spoilt(make, "crossed", (0,), 1)
        self.spoilt(make, "crossed", (0,), 1, known=(5,))
        self.spoilt(make, "crossed", (0,), 2, known=(1, 6))

    def test_pieces_beyond(self):
        for first in (1, 30, 31, 2 ** 32 - 1):
            self.spoilt_entries(lambda order: [(1, 9, 0, 0), (2, 6, 1, first)], lambda order: {}, "beyond", 1, cells=30)

    def test_a_piece_at_the_head(self):
        # The pointer there, to cell 400, isn't asked for as how many numbers the piece has.
        self.spoilt(lambda order: laid(order, 400, {400: table(order, 1, [(1, 6, 1, 1)])}), "beyond", (0,), 0)

    def test_pieces_cross_a_table(self):
        # The cell 4 has the count of the first entry.
        for count in (0, 1, 4):
            self.spoilt_entries(lambda order: [(1, 9, count, SAME), (2, 6, 1, 4)], lambda order: {}, "crossed", 1)

    def test_pieces_of_too_many_numbers(self):
        for many in (301, 65536, 2 ** 32 - 1):
            self.spoilt_entries(lambda order: [(1, 6, 1, 20)], lambda order: {20: pointer(order, many)}, "many", 0, cells=400)
            self.spoilt_entries(lambda order: [(1, 6, 1, 20)], lambda order: {20: pointer(order, many)}, "many", 0)
        self.entries_read(lambda order: [(1, 6, 1, 20)], lambda order: {20: pointer(order, 300)}, cells=96)
        self.spoilt_entries(lambda order: [(1, 6, 1, 20)], lambda order: {20: pointer(order, 300)}, "beyond", 0, cells=95)
        self.spoilt_entries(lambda order: [(1, 6, 1, 20)], lambda order: {20: pointer(order, 297)}, "beyond", 0, cells=95)
        self.entries_read(lambda order: [(1, 6, 1, 20)], lambda order: {20: pointer(order, 296)}, cells=95)
        self.spoilt_entries(lambda order: [(1, 6, 1, 20)], lambda order: {20: pointer(order, 1)}, "beyond", 0, cells=21)
        self.entries_read(lambda order: [(1, 6, 1, 20)], lambda order: {20: pointer(order, 0)}, cells=21)

    def test_crossed_pieces(self):
        def row(first, many):
            return (lambda order: [(1, 6, 1, 20), (2, 6, 1, first)],
                    lambda order: {20: pointer(order, 8) + pointer(order, 4) + pointer(order, 1), first: pointer(order, many)})

        for first, many in ((21, 4), (22, 1), (22, 0), (19, 1), (18, 8), (19, 4), (17, 300)):
            self.spoilt_entries(*row(first, many), "crossed", 1, cells=99)
        for first, many in ((20, 8), (20, 5), (23, 5), (18, 4), (19, 0)):
            self.entries_read(*row(first, many), cells=99)

    def test_piece_by_piece(self):
        def rows(*firsts):
            return (lambda order: [(1, 6, len(firsts), 10)],
                    lambda order: {10: pointers(order, *firsts), 20: piece(order, (1, 2)), 22: pointer(order, 301),
                                   29: pointer(order, 5)})

        self.entries_read(*rows(20, 0, 20))
        self.spoilt_entries(*rows(20, 22, 1), "many", 0)
        self.spoilt_entries(*rows(20, 1, 22), "beyond", 0)
        self.spoilt_entries(*rows(20, 29, 22), "beyond", 0)
        self.spoilt_entries(*rows(21, 22), "many", 0)
        self.spoilt_entries(*rows(20, 10, 22), "crossed", 0)
        self.spoilt_entries(*rows(0, 30), "beyond", 0)

    def test_own_cells_ahead_of_pieces_and_chains(self):
        self.spoilt_entries(lambda order: [(1, 6, 2, 10), (2, 6, 2, 11)], lambda order: {10: pointers(order, 0, 0, 1)},
                            "crossed", 1)
        self.spoilt_entries(lambda order: [(1, 5, 2, 10), (2, 5, 2, 11)], lambda order: {10: pointers(order, 0, 0, 1)},
                            "crossed", 1)

        def chains(first):
            return lambda order: laid(order, 2, {2: table(order, 1, [(1, 5, 2, 10)]), 10: pointers(order, first, 1)})

        self.spoilt(chains(0), "beyond", (0, 1, 1, 0))
        self.spoilt(chains(1), "beyond", (0, 1, 0, 0))
        self.spoilt(chains(2), "ring", (0, 1, 0, 0))

    def test_signs(self):
        good = [32, 45, 46] + list(range(48, 58)) + list(range(65, 91)) + list(range(97, 123))
        for sign in range(256):
            for count, at in ((1, 0), (4, 3), (5, 4), (9, 0)):
                numbers = [97] * count
                numbers[at] = sign

                def entries(order):
                    return [(1, 9, 0, 0), (2, 4, count, tuple(numbers) + (0,) * (4 - count) if count < 5 else 20)]

                def parts(order):
                    return {20: filled(numbers, 0)} if count > 4 else {}

                if sign in good:
                    self.entries_read(entries, parts)
                else:
                    self.spoilt_entries(entries, parts, "sign", 1)
                self.entries_read(entries, parts, known=(1, 2, 3, 5, 6))

    def test_sign_behind_the_others(self):
        self.spoilt_entries(lambda order: [(1, 1, 8, 20), (2, 4, 8, 21)], lambda order: {20: (0,) * 12}, "crossed", 1)
        self.spoilt_entries(lambda order: [(1, 4, 8, 21)], lambda order: {20: (0,) * 8}, "beyond", 0)
        self.spoilt_entries(lambda order: [(1, 4, 1, (0, 0, 0, 0)), (1, 1, 0, 0)], lambda order: {}, "sign", 0)

    def test_the_first_entry_is_met_first(self):
        self.spoilt_entries(lambda order: [(1, 1, 0, 0), (2, 1, 5, 1), (3, 1, 301, 1)], lambda order: {}, "beyond", 1)
        self.spoilt_entries(lambda order: [(1, 1, 0, 0), (2, 1, 301, 1), (2, 1, 5, 1)], lambda order: {}, "many", 1)

    def test_entries_are_met_ahead_of_the_next_table(self):
        self.spoilt(lambda order: laid(order, 2, {2: table(order, 1, [(1, 1, 5, 0)], 1)}), "beyond", (0,), 0)
        self.spoilt(lambda order: laid(order, 2, {2: table(order, 1, [(1, 1, 5, 10)], 1), 10: (0,) * 8}), "beyond", (1,))

    def test_a_chain_is_met_whole_ahead_of_the_next_pointer(self):
        def make(order):
            return laid(order, 2, {
                2: table(order, 1, [(1, 5, 3, 10)], 1), 10: pointers(order, 20, 1, 0),
                20: table(order, 1, [(5, 5, 1, 30)], 40), 30: table(order, 1, [(6, 4, 1, (1, 0, 0, 0))]),
                40: table(order, 1, [(7, 1, 301, 0)])})

        inner = (0, 1, 0, 0, 5, 0, 0)
        self.spoilt(make, "sign", inner, 0)
        self.spoilt(make, "many", (0, 1, 0, 1), 0, known=(5,))

        def mended(order):
            file = make(order)
            return file[:160] + table(order, 1, [(7, 1, 4, 0)]) + file[180:]

        self.spoilt(mended, "beyond", (0, 1, 1, 0), known=(5,))

    def test_entries_of_inner_tables(self):
        def make(order):
            return laid(order, 2, {
                2: table(order, 0, [], 4), 4: table(order, 1, [(300, 5, 2, 10)]), 10: pointers(order, 0, 20),
                20: table(order, 0, [], 30), 30: table(order, 3, [(1, 1, 1, SAME), (2, 1, 1, SAME), (2, 1, 1, SAME)])})

        self.spoilt(make, "tags", (1, 300, 1, 1), 2)

    def test_place_that_leads_to_itself(self):
        self.spoilt_entries(lambda order: [(1, 1, 5, 5)], lambda order: {}, "crossed", 0, cells=20)
        self.assertEqual(len(entry("small", 1, 1, 5, 5)), 12)
