import unittest

from tests.building import ORDERS, filled, head, laid, number, pair, piece, pointer, pointers, table
from tornentries.errors import Spoilt
from tornentries.reading import head_of, read
from tornentries.trees import is_tree

JUNKS = (0, 1, 171, 255)


class HeadTest(unittest.TestCase):
    def spoilt(self, file):
        with self.assertRaises(Spoilt) as caught:
            head_of(file)
        error = caught.exception
        self.assertEqual((error.why, error.path, error.number), ("head", (), None))
        with self.assertRaises(Spoilt) as caught:
            read(file)
        error = caught.exception
        self.assertEqual((error.why, error.path, error.number), ("head", (), None))
        with self.assertRaises(Spoilt):
            read(file, root=0)

    def test_both_orders(self):
        self.assertEqual(head_of((60, 60, 236, 7, 4, 3, 2, 1)), ("small", 16909060))
        self.assertEqual(head_of((62, 62, 7, 236, 1, 2, 3, 4)), ("great", 16909060))
        self.assertEqual(head_of((60, 60, 236, 7, 0, 0, 0, 0) + (9,) * 40), ("small", 0))
        self.assertEqual(head_of((62, 62, 7, 236, 255, 255, 255, 255)), ("great", 2 ** 32 - 1))
        self.assertIs(type(head_of((60, 60, 236, 7, 0, 0, 0, 0))), tuple)

    def test_too_few_cells(self):
        self.spoilt(())
        self.spoilt((60, 60, 236, 7))
        self.spoilt((62, 62, 7, 236))

    def test_each_number_otherwise(self):
        for order in ORDERS:
            good = head(order, 0)
            for at in range(4):
                for other in (0, 1, 7, 59, 60, 61, 62, 63, 236, 255):
                    if other != good[at]:
                        self.spoilt(good[:at] + (other,) + good[at + 1:])
        self.spoilt((60, 60, 7, 236, 0, 0, 0, 0))
        self.spoilt((62, 62, 236, 7, 0, 0, 0, 0))
        self.spoilt((61, 61, 236, 7, 0, 0, 0, 0))
        self.spoilt((0,) * 400)


class ReadTest(unittest.TestCase):
    def reads(self, make, chain, **told):
        """Whether what make lays out, in both orders and with any junk, reads as the chain."""
        for order in ORDERS:
            for junk in JUNKS:
                file = make(order, junk)
                kept = tuple(list(file))
                with self.subTest((order, junk)):
                    tree = read(file, **told)
                    self.assertEqual(tree, (order, chain(order) if callable(chain) else chain))
                    self.assertIs(is_tree(tree, known=told.get("known", (1, 2, 3, 4, 5, 6))), True)
                    self.assertEqual(file, kept)

    def reads_entries(self, entries, parts, worths, **told):
        """The same of one table of these entries at cell 2, and parts elsewhere, both told for an order and junk."""
        def make(order, junk):
            rows = entries(order, junk)
            return laid(order, 2, {2: table(order, len(rows), rows), **parts(order, junk)}, junk)

        self.reads(make, lambda order: (worths(order) if callable(worths) else worths,), **told)

    def test_by_hand_in_numbers(self):
        small = (60, 60, 236, 7, 2, 0, 0, 0, 2, 0, 2, 0, 5, 0, 1, 0, 3, 0, 0, 0, 7, 8, 9, 99,
                 0, 1, 4, 0, 5, 0, 0, 0, 10, 0, 0, 0, 0, 0, 0, 0, 97, 98, 99, 32, 46, 99, 99, 99)
        self.assertEqual(read(small), ("small", (((5, 1, (7, 8, 9)), (256, 4, "abc .")),)))
        great = (62, 62, 7, 236, 0, 0, 0, 2, 0, 2, 0, 2, 0, 5, 0, 1, 0, 0, 0, 3, 7, 8, 9, 99,
                 1, 0, 0, 4, 0, 0, 0, 5, 0, 0, 0, 10, 0, 0, 0, 0, 97, 98, 99, 32, 46, 99, 99, 99)
        self.assertEqual(read(great), ("great", (((5, 1, (7, 8, 9)), (256, 4, "abc .")),)))

    def test_no_table(self):
        self.reads(lambda order, junk: laid(order, 0, {}, junk), ())
        self.reads(lambda order, junk: laid(order, 0, {}, junk, cells=9), ())

    def test_tables_without_entries(self):
        self.reads(lambda order, junk: laid(order, 2, {2: table(order, 0, [])}, junk), ((),))
        self.reads(lambda order, junk: laid(order, 9, {9: table(order, 3, [], 2, junk), 2: table(order, 0, [])}, junk), ((), ()))

    def test_numbers_in_the_entry(self):
        self.reads_entries(
            lambda order, junk: [
                (0, 1, 0, (junk,) * 4), (1, 1, 1, (200, junk, junk, junk)), (2, 1, 4, (1, 2, 3, 4)),
                (3, 2, 0, (junk,) * 4), (4, 2, 1, pair(order, 5000, 0)[:2] + (junk, junk)), (5, 2, 2, pair(order, 1, 65535)),
                (6, 3, 0, (junk,) * 4), (7, 3, 1, pointer(order, 2 ** 32 - 1)), (65535, 1, 2, (0, 255, junk, junk))],
            lambda order, junk: {},
            ((0, 1, ()), (1, 1, (200,)), (2, 1, (1, 2, 3, 4)), (3, 2, ()), (4, 2, (5000,)), (5, 2, (1, 65535)), (6, 3, ()),
             (7, 3, (2 ** 32 - 1,)), (65535, 1, (0, 255))))

    def test_numbers_elsewhere(self):
        self.reads_entries(
            lambda order, junk: [(1, 1, 5, 120), (2, 2, 3, 130), (3, 3, 2, 140), (4, 1, 300, 150)],
            lambda order, junk: {
                120: filled((1, 2, 3, 4, 5), junk), 130: filled(pair(order, 1, 2) + number(order, 65535, 2), junk),
                140: pointers(order, 9, 2 ** 32 - 1), 150: tuple([k % 256 for k in range(300)])},
            ((1, 1, (1, 2, 3, 4, 5)), (2, 2, (1, 2, 65535)), (3, 3, (9, 2 ** 32 - 1)),
             (4, 1, tuple([k % 256 for k in range(300)]))))

    def test_texts(self):
        signs = " -.0123456789ABCDEFGHIJKLMNOPQRSTUVWXYZabcdefghijklmnopqrstuvwxyz"
        self.reads_entries(
            lambda order, junk: [(1, 4, 0, (junk,) * 4), (2, 4, 3, (97, 45, 90, junk)), (3, 4, 4, (32, 46, 48, 57)),
                                 (4, 4, 5, 120), (5, 4, len(signs), 130)],
            lambda order, junk: {120: filled((97, 98, 99, 100, 101), junk),
                                 130: filled([ord(sign) for sign in signs], junk)},
            ((1, 4, ""), (2, 4, "a-Z"), (3, 4, " .09"), (4, 4, "abcde"), (5, 4, signs)))

    def test_raw_worths(self):
        self.reads_entries(
            lambda order, junk: [
                (1, 0, 0, (junk,) * 4), (2, 9, 4, (4, 3, 2, 1)), (3, 9, 5, 130), (4, 7, 1, (1, 2, junk, junk)),
                (5, 7, 2, (1, 2, 3, 4)), (6, 7, 3, 140), (7, 8, 1, (9, 8, 7, 6)), (8, 8, 2, 150), (9, 65535, 2, (5, 6, junk, junk)),
                (10, 65534, 300, 160)],
            lambda order, junk: {130: filled((1, 2, 3, 4, 5), junk), 140: filled((1, 2, 3, 4, 5, 6), junk),
                                 150: (1, 2, 3, 4, 5, 6, 7, 8), 160: (77,) * 1200},
            ((1, 0, ()), (2, 9, (4, 3, 2, 1)), (3, 9, (1, 2, 3, 4, 5)), (4, 7, (1, 2)), (5, 7, (1, 2, 3, 4)),
             (6, 7, (1, 2, 3, 4, 5, 6)), (7, 8, (9, 8, 7, 6)), (8, 8, (1, 2, 3, 4, 5, 6, 7, 8)), (9, 65535, (5, 6)),
             (10, 65534, (77,) * 1200)))

    def test_room_that_is_not_used(self):
        for room in (1, 2, 3, 39, 40):
            self.reads(lambda order, junk: laid(order, 2, {
                2: table(order, room, [(1, 1, 1, (5, junk, junk, junk))], 300, junk),
                300: table(order, room - 1, [], 0, junk)}, junk), (((1, 1, (5,)),), ()))

    def test_forty_entries(self):
        self.reads_entries(
            lambda order, junk: [(tag, 1, 1, (tag, junk, junk, junk)) for tag in range(40)], lambda order, junk: {},
            tuple([(tag, 1, (tag,)) for tag in range(40)]))

    def test_ten_tables(self):
        def make(order, junk):
            parts = {}
            for n in range(10):
                following = 0 if n == 9 else 2 + 8 * (8 - n)
                parts[2 + 8 * (9 - n)] = table(order, 1, [(n, 1, 1, (n, junk, junk, junk))], following)
            return laid(order, 74, parts, junk)

        self.reads(make, tuple([((n, 1, (n,)),) for n in range(10)]))

    def test_pieces(self):
        self.reads_entries(
            lambda order, junk: [(1, 6, 0, (junk,) * 4), (2, 6, 1, 30), (3, 6, 1, 0), (4, 6, 4, 40), (5, 6, 1, 60)],
            lambda order, junk: {
                30: piece(order, (1, 2, 3, 4, 5), junk), 40: pointers(order, 50, 0, 33, 50), 50: piece(order, (9,), junk),
                33: piece(order, (), junk), 60: piece(order, (6,) * 300, junk)},
            ((1, 6, ()), (2, 6, ((1, 2, 3, 4, 5),)), (3, 6, ((),)), (4, 6, ((9,), (), (), (9,))), (5, 6, ((6,) * 300,))))

    def test_three_hundred_pointers(self):
        self.reads_entries(
            lambda order, junk: [(1, 5, 300, 20), (2, 6, 300, 400)],
            lambda order, junk: {20: (0,) * 1200, 400: pointers(order, *[(0, 710)[k % 2] for k in range(300)]),
                                 710: piece(order, (3,), junk)},
            ((1, 5, ((),) * 300), (2, 6, tuple([((), (3,))[k % 2] for k in range(300)]))))

    def test_chains_in_entries(self):
        def make(order, junk):
            return laid(order, 10, {
                10: table(order, 1, [(1, 5, 1, 20)]),
                20: table(order, 2, [(2, 5, 3, 30), (3, 5, 0, (junk,) * 4)], 40),
                30: pointers(order, 50, 0, 60),
                40: table(order, 1, [], 0, junk),
                50: table(order, 1, [(5, 5, 1, 70)]),
                60: table(order, 0, [], 63),
                63: table(order, 1, [(6, 4, 2, (97, 98, junk, junk))]),
                70: table(order, 2, [(7, 5, 1, 0), (8, 5, 2, 80)]),
                80: (0,) * 8}, junk)

        fourth = ((7, 5, ((),)), (8, 5, ((), ())))
        second = ((2, 5, ((((5, 5, ((fourth,),)),),), (), ((), ((6, 4, "ab"),)))), (3, 5, ()))
        self.reads(make, (((1, 5, ((second, ()),)),),))

    def test_shared_worths_and_pieces(self):
        self.reads_entries(
            lambda order, junk: [(1, 1, 8, 140), (2, 1, 8, 140), (3, 4, 7, 140), (4, 9, 5, 140), (5, 2, 4, 140), (6, 8, 2, 140),
                                 (7, 6, 2, 150), (8, 6, 2, 150), (9, 6, 1, 160), (10, 6, 2, 152)],
            lambda order, junk: {140: (97,) * 8, 150: pointers(order, 160, 160, 164, 160), 160: piece(order, (1, 2, 3), junk),
                                 164: piece(order, (4,), junk)},
            ((1, 1, (97,) * 8), (2, 1, (97,) * 8), (3, 4, "a" * 7), (4, 9, (97,) * 5), (5, 2, (97 * 257,) * 4),
             (6, 8, (97,) * 8), (7, 6, ((1, 2, 3),) * 2), (8, 6, ((1, 2, 3),) * 2), (9, 6, ((1, 2, 3),)),
             (10, 6, ((4,), (1, 2, 3)))))

    def test_fewer_known_kinds(self):
        def entries(order, junk):
            return [(1, 1, 2, (3, 4, junk, junk)), (2, 2, 3, 140), (3, 3, 1, pointer(order, 258)), (4, 4, 5, 150),
                    (5, 5, 1, 160), (6, 5, 2, 170), (7, 6, 2, 180), (8, 6, 1, 9999), (9, 5, 2, 170)]

        def parts(order, junk):
            return {140: filled(pair(order, 1, 2) + number(order, 3, 2), junk), 150: filled((97, 98, 200, 0, 10), junk),
                    160: (junk,) * 8, 170: pointers(order, 2, 1), 180: pointers(order, 999, 2)}

        def raw(order):
            return ((1, 1, (3, 4)), (2, 2, pair(order, 1, 2) + number(order, 3, 2)), (3, 3, pointer(order, 258)),
                    (4, 4, (97, 98, 200, 0, 10)), (5, 5, pointer(order, 160)), (6, 5, pointers(order, 2, 1)),
                    (7, 6, pointers(order, 999, 2)), (8, 6, pointer(order, 9999)), (9, 5, pointers(order, 2, 1)))

        self.reads_entries(entries, parts, raw, known=())
        self.reads_entries(entries, parts, raw, known=(1,))

        def some(order):
            return raw(order)[:1] + ((2, 2, (1, 2, 3)), (3, 3, (258,))) + raw(order)[3:]

        self.reads_entries(entries, parts, some, known=(2, 3))

    def test_what_raw_entries_lead_to_is_not_held(self):
        # What looks like pointers of a raw entry leads into the table and to worths of others.
        self.reads_entries(
            lambda order, junk: [(1, 5, 1, 2), (2, 6, 1, 3), (3, 1, 5, 40)], lambda order, junk: {40: (9,) * 8},
            lambda order: ((1, 5, pointer(order, 2)), (2, 6, pointer(order, 3)), (3, 1, (9,) * 5)), known=(1, 2, 3, 4))

    def test_another_root(self):
        def make(order, junk):
            return laid(order, 2, {
                2: table(order, 1, [(1, 5, 1, 10)], 20), 10: table(order, 0, []),
                20: table(order, 1, [(2, 1, 1, (3, junk, junk, junk))], 30), 30: table(order, 0, [])}, junk)

        whole = (((1, 5, (((),),)),), ((2, 1, (3,)),), ())
        self.reads(make, whole)
        self.reads(make, whole, root=None)
        self.reads(make, whole, root=2)
        self.reads(make, whole[1:], root=20)
        self.reads(make, ((),), root=30)
        self.reads(make, ((),), root=10)
        self.reads(make, (), root=0)

    def test_another_root_of_a_spoilt_file(self):
        self.reads(lambda order, junk: laid(order, 999, {2: table(order, 0, [])}, junk), ((),), root=2)
        self.reads(lambda order, junk: laid(order, 1, {2: table(order, 0, [])}, junk), (), root=0)

    def test_the_last_cell(self):
        def make(order, junk):
            file = laid(order, 2, {2: table(order, 1, [(1, 1, 5, 990)], 998), 998: table(order, 0, []),
                                   990: (1, 2, 3, 4, 5, 6, 7, 8)}, junk)
            self.assertEqual(len(file), 4000)
            return file

        self.reads(make, (((1, 1, (1, 2, 3, 4, 5)),), ()))
