import unittest

from tests.building import ORDERS
from tests.drawing import drawn_files, has_raw, wanted
from tests.walking import Walk
from tornentries.cells import is_file
from tornentries.errors import Raw, TooGreat
from tornentries.kinds import KNOWN
from tornentries.making import made, turned
from tornentries.reading import read

CHAINS = (
    (),
    ((),),
    ((), (), ()),
    (((1, 1, ()), (2, 1, (1, 2, 3, 4)), (3, 1, (1, 2, 3, 4, 5)), (4, 2, (1, 258)), (5, 2, (1, 2, 3)), (6, 3, (2 ** 32 - 1,)),
      (7, 3, (16909060, 2)), (8, 4, ""), (9, 4, "abcd"), (10, 4, "Blank -. 09"), (65535, 1, (255,) * 300)),),
    (((0, 5, ()), (1, 5, ((),)), (2, 5, ((), ())), (3, 5, (((),),)), (4, 5, (((), ()), (), (((9, 1, (1,)),),)))),),
    (((0, 6, ()), (1, 6, ((),)), (2, 6, ((1,),)), (3, 6, ((), ())), (4, 6, ((1, 2, 3, 4), (1, 2, 3, 4, 5), (), (1,) * 300))),),
    (tuple([(tag, 1, (tag,)) for tag in range(40)]),) * 3,
    (((1, 5, ((((1, 5, ((((1, 5, (((),), ())),),),)),),),)),),),
)


class MadeTest(unittest.TestCase):
    def test_reads_as_the_tree(self):
        for order in ORDERS:
            for chain in CHAINS:
                for room in (0, 1, 2, 5, 39, 40):
                    if 2 + wanted(chain, room) <= 1000:
                        file = made((order, chain), room=room)
                        self.assertIs(is_file(file), True)
                        self.assertEqual(read(file), (order, chain))
                        self.check_rooms(file, room)

    def check_rooms(self, file, room):
        for _, many, wide in Walk(file).tables.values():
            self.assertEqual(wide, min(40, many + room))

    def test_no_room_where_none_is_told(self):
        for order in ORDERS:
            for chain in CHAINS:
                self.assertEqual(made((order, chain)), made((order, chain), room=0))

    def test_drawn_trees(self):
        for at, (tree, _) in enumerate(drawn_files(150, raw=False)):
            for room in (at % 6, at % 41):
                if 2 + wanted(tree[1], room) <= 1000:
                    file = made(tree, room=room)
                    self.assertEqual(read(file), tree)
                    self.check_rooms(file, room)

    def test_room_told_at_every_number(self):
        for room in range(41):
            for many in (0, 1, 38, 39, 40):
                tree = ("great", (tuple([(tag, 1, ()) for tag in range(many)]),))
                self.assertEqual(read(made(tree, room=room)), tree)
                self.check_rooms(made(tree, room=room), room)

    def test_too_great(self):
        # Nine chains in a list, of tables of one entry: 9 + 5 for each table, 5 for the one of the list, 2 for the head.
        inner = tuple([(((1, 1, ()),),) * 10 for _ in range(9)])
        most = (((1, 5, inner), (2, 1, (0,) * 300), (3, 1, (1,) * 300), (4, 1, (2,) * 300), (5, 1, (3,) * 300),
                 (6, 1, (4,) * 300), (7, 1, (5,) * 300)),)
        spare = 1000 - 2 - wanted(most)
        self.assertGreater(spare, 3)
        for order in ORDERS:
            for more, told in ((spare, True), (spare + 1, False), (spare + 40, False)):
                whole = (most[0] + ((8, 1, (9,) * (4 * (more - 3) if more > 4 else 4)),),)
                self.assertEqual(2 + wanted(whole) <= 1000, told)
                if told:
                    self.assertEqual(2 + wanted(whole), 1000)
                    self.assertEqual(read(made((order, whole))), (order, whole))
                    self.too_great((order, whole), 1)
                else:
                    self.too_great((order, whole), 0)

    def too_great(self, tree, room):
        with self.assertRaises(TooGreat):
            made(tree, room=room)

    def test_too_great_with_nothing_shared(self):
        # Shared, these need few cells.
        for order in ORDERS:
            many = tuple([(tag, 1, (7,) * 300) for tag in range(13)])
            self.assertEqual(2 + wanted((many[:12],)), 2 + 2 + 12 * 78)
            self.assertEqual(read(made((order, (many[:12],)))), (order, (many[:12],)))
            self.too_great((order, (many,)), 0)
            pieces = ((1, 6, ((9,) * 297,) * 13),)
            self.too_great((order, (pieces,)), 0)
            self.too_great((order, (((1, 6, ((),) * 300), (2, 6, ((),) * 300), (3, 6, ((),) * 300), (4, 6, ((),) * 90)),)), 0)

    def test_too_great_by_the_room_told(self):
        for order in ORDERS:
            tree = (order, ((),) * 10)
            self.assertEqual(len(made(tree, room=32)), 4 * (2 + 10 * 98))
            self.too_great(tree, 33)
            # More than forty entries' room there never is.
            full = (order, (tuple([(tag, 1, ()) for tag in range(40)]),) * 8)
            self.assertEqual(made(full, room=40), made(full))

    def raw(self, tree, path, tag):
        kept = tuple(list(tree))
        for call in (lambda: made(tree), lambda: made(tree, room=40),
                     lambda: turned(tree, "great" if tree[0] == "small" else "small")):
            with self.assertRaises(Raw) as caught:
                call()
            self.assertEqual((caught.exception.path, caught.exception.tag), (path, tag))
        self.assertEqual(turned(tree, tree[0]), tree)
        self.assertEqual(tree, kept)

    def test_raw(self):
        for order in ORDERS:
            for kind in (0, 7, 8, 9, 65535):
                self.raw((order, (((1, 1, ()), (4, kind, ()), (5, 9, ())),)), (0,), 4)
            self.raw((order, ((), ((7, 9, (1,)),))), (1,), 7)

    def test_the_first_raw_entry_in_the_order_of_reading(self):
        for order in ORDERS:
            deep = (((1, 1, ()), (3, 8, ()),),)
            # Within an entry ahead of those behind it, and ahead of the tables behind.
            self.raw((order, (((2, 5, ((), deep)), (9, 9, ())), ((0, 9, ()),))), (0, 2, 1, 0), 3)
            self.raw((order, (((2, 9, ()), (3, 5, (deep,))),)), (0,), 2)
            self.raw((order, (((2, 5, (((), ()), ((), ((6, 5, (deep,)), (7, 9, ()))))),), ((0, 9, ()),))),
                     (0, 2, 1, 1, 6, 0, 0), 3)
            self.raw((order, (((2, 5, (((), ((4, 9, ()),)), deep)),),)), (0, 2, 0, 1), 4)

    def test_raw_ahead_of_too_great(self):
        for order in ORDERS:
            self.raw((order, (tuple([(tag, 1, (7,) * 300) for tag in range(30)]) + ((99, 9, ()),),)), (0,), 99)
            self.raw((order, ((),) * 9 + (((3, 7, (1, 2)),),)), (9,), 3)


class TurnedTest(unittest.TestCase):
    def test_to_the_other_order_and_to_its_own(self):
        for chain in CHAINS:
            self.assertEqual(turned(("small", chain), "great"), ("great", chain))
            self.assertEqual(turned(("great", chain), "small"), ("small", chain))
            for order in ORDERS:
                self.assertEqual(turned((order, chain), order), (order, chain))
                self.assertIs(type(turned((order, chain), order)), tuple)

    def test_drawn_trees(self):
        raw = 0
        for (order, chain), _ in drawn_files(80, least=20):
            other = "great" if order == "small" else "small"
            if has_raw(chain, KNOWN):
                raw += 1
                with self.assertRaises(Raw):
                    turned((order, chain), other)
            else:
                self.assertEqual(turned((order, chain), other), (other, chain))
            self.assertEqual(turned((order, chain), order), (order, chain))
        self.assertGreater(raw, 9)
