import unittest

from tests.building import ODD, ORDERS, laid, pair, piece, pointer, pointers, table
from tests.drawing import drawn_files, wide
from tests.writing import Row
from tornentries.errors import Raw, TooGreat
from tornentries.kinds import KNOWN
from tornentries.least import is_least, least, needed
from tornentries.making import made
from tornentries.reading import read


def needed_by_hand(tree):
    """How many cells the tree needs, told by the wording of the promise alone."""
    worths, lists, pieces = {}, {}, {}
    cells = 2 + count(tree[1], tree[0], worths, lists, pieces)
    for numbers in worths:
        many = (len(numbers) + 3) // 4
        others = [other for other in worths if (len(other) + 3) // 4 == many and other != numbers]
        if not any([other[:len(numbers)] == numbers for other in others]):
            cells += many
    cells += sum([len(numbers) for numbers in lists if len(numbers) > 1])
    return cells + sum([1 + (len(numbers) + 3) // 4 for numbers in pieces if numbers])


def count(chain, order, worths, lists, pieces):
    """The cells of tables and lists of chains; what may be alike is put into the dicts."""
    cells = 0
    for rows in chain:
        cells += 2 + 3 * len(rows)
        for _, kind, told in rows:
            if kind == 5:
                cells += len(told) if len(told) > 1 else 0
                cells += sum([count(inner, order, worths, lists, pieces) for inner in told])
            elif kind == 6:
                lists[told] = True
                pieces.update({numbers: True for numbers in told})
            else:
                ends = "little" if order == "small" else "big"
                numbers = told.encode() if kind == 4 else b"".join([worth.to_bytes(wide(kind), ends) for worth in told])
                if len(numbers) > 4:
                    worths[numbers] = True
    return cells


class LeastTest(unittest.TestCase):
    def needs(self, chain, many, orders=ORDERS):
        for order in orders:
            with self.subTest((order, chain)):
                tree = (order, chain)
                self.assertEqual(needed(tree), many)
                self.assertEqual(needed_by_hand(tree), many)
                file = least(tree)
                self.assertEqual(len(file), 4 * many)
                self.assertEqual(read(file), tree)
                self.assertIs(is_least(file), True)
                self.assertIs(is_least(file + (0, 0, 0, 0)), False)

    def test_heads_and_tables(self):
        self.needs((), 2)
        self.needs(((),), 4)
        self.needs(((), (), ()), 8)
        self.needs((((1, 1, ()),),), 7)
        self.needs((((1, 1, ()), (2, 1, (1, 2, 3, 4)), (3, 2, (1, 2)), (4, 3, (1,)), (5, 4, "abcd")),), 19)

    def test_alike_worths(self):
        one = (1, 1, (1, 2, 3, 4, 5))
        self.needs(((one,),), 9)
        self.needs(((one, (2, 1, (1, 2, 3, 4, 5))),), 12)
        self.needs(((one,), (one,), (one,)), 2 + 15 + 2)
        self.needs(((one, (2, 1, (1, 2, 3, 4, 6))),), 14)

    def test_worths_of_other_kinds_with_the_same_numbers(self):
        rows = ((1, 1, (97, 98, 99, 100, 101, 102, 103, 104)), (2, 4, "abcdefgh"))
        self.needs((rows,), 2 + 8 + 2)
        self.needs((rows + ((3, 2, (25185, 25699, 26213, 26727)), (4, 3, (1684234849, 1751606885))),), 2 + 14 + 2, ["small"])
        self.needs((rows + ((3, 2, (24930, 25444, 25958, 26472)), (4, 3, (1633837924, 1701209960))),), 2 + 14 + 2, ["great"])

    def test_of_another_orders_numbers(self):
        rows = ((1, 1, (1, 0, 2, 0, 3, 0)), (2, 2, (1, 2, 3)), (3, 2, (256, 512, 768)))
        self.assertEqual(needed(("small", (rows,))), 4 + 9 + 4)
        self.assertEqual(needed(("great", (rows,))), 4 + 9 + 4)
        self.needs((((1, 1, (1, 0, 2, 0, 3, 0)), (2, 2, (1, 2, 3))),), 4 + 6 + 2, ["small"])
        self.needs((((1, 1, (1, 0, 2, 0, 3, 0)), (2, 2, (1, 2, 3))),), 4 + 6 + 4, ["great"])
        self.needs((((1, 1, (1, 0, 2, 0, 3, 0)), (2, 2, (256, 512, 768))),), 4 + 6 + 2, ["great"])
        self.needs((((1, 1, (1, 0, 2, 0, 3, 0)), (2, 2, (256, 512, 768))),), 4 + 6 + 4, ["small"])

    def test_the_beginning_of_others_of_as_many_cells(self):
        def rows(*manies):
            return tuple([(tag, 1, tuple(range(many))) for tag, many in enumerate(manies)])

        self.needs((rows(5, 8),), 4 + 6 + 2)
        self.needs((rows(8, 7, 6, 5),), 4 + 12 + 2)
        self.needs((rows(5, 6, 7, 8),), 4 + 12 + 2)
        self.needs((rows(8, 9),), 4 + 6 + 5)
        self.needs((rows(5, 9),), 4 + 6 + 5)
        self.needs((rows(9, 12, 5, 8, 4, 13),), 4 + 18 + 3 + 2 + 4)
        self.needs((((1, 1, (7,) * 5), (2, 1, (7,) * 5 + (1,)), (3, 1, (7,) * 5 + (2, 3)), (4, 1, (7,) * 6)),), 4 + 12 + 6)
        # What is left of a cell doesn't matter, so noughts at the end aren't filling.
        self.needs((((1, 1, (1, 2, 3, 4, 5)), (2, 1, (1, 2, 3, 4, 5, 0))),), 4 + 6 + 2)
        self.needs((((1, 1, (1, 2, 3, 4, 5, 0)), (2, 1, (1, 2, 3, 4, 5)), (3, 1, (1, 2, 3, 4, 5, 6))),), 4 + 9 + 4)

    def test_lists_of_chains(self):
        self.needs((((1, 5, ()),),), 7)
        self.needs((((1, 5, ((),)),),), 7)
        self.needs((((1, 5, (((),),)),),), 9)
        self.needs((((1, 5, ((), ())),),), 9)
        self.needs((((1, 5, ((), ())), (2, 5, ((), ()))),), 14)
        self.needs((((1, 5, (((),), ((),))), (2, 5, (((),), ((),)))),), 10 + 4 + 8)

    def test_pieces(self):
        self.needs((((1, 6, ()),),), 7)
        self.needs((((1, 6, ((),)),),), 7)
        self.needs((((1, 6, ((9,),)),),), 9)
        self.needs((((1, 6, ((9,) * 4,)),),), 9)
        self.needs((((1, 6, ((9,) * 5,)),),), 10)
        self.needs((((1, 6, ((), ())),),), 9)
        self.needs((((1, 6, ((9,), (9,))),),), 11)
        self.needs((((1, 6, ((9,), (9, 9))),),), 13)
        self.needs((((1, 6, ((9,),)), (2, 6, ((9,),))),), 12)

    def test_a_piece_is_no_beginning_of_another_one(self):
        self.needs((((1, 6, ((1, 2, 3, 4, 5),)), (2, 6, ((1, 2, 3, 4, 5, 6),))),), 10 + 6)

    def test_lists_of_the_same_pieces(self):
        both = ((1,), (2,))
        self.needs((((1, 6, both), (2, 6, both)),), 10 + 2 + 4)
        self.needs((((1, 6, both), (2, 6, both[::-1])),), 10 + 4 + 4)
        self.needs((((1, 6, both), (2, 6, both + ((),))),), 10 + 5 + 4)
        self.needs((((1, 6, ((), ())), (2, 6, ((), ())), (3, 6, ((), (), ()))),), 13 + 5)
        self.needs((((1, 6, both), (2, 5, ((((1, 6, both),),),))),), 10 + 5 + 2 + 4)

    def test_worths_lists_and_pieces_share_no_cells(self):
        # The worths are written as the list of no pieces, and as the piece.
        self.needs((((1, 6, ((), ())), (2, 1, (0,) * 8)),), 10 + 4)
        self.needs((((1, 6, ((1, 2, 3, 4),)), (2, 1, (4, 0, 0, 0, 1, 2, 3, 4))),), 10 + 4, ["small"])

    def test_drawn_trees(self):
        shared = 0
        for tree, file in drawn_files(200, least=20, raw=False):
            many = needed_by_hand(tree)
            self.assertEqual(needed(tree), many)
            told = least(tree)
            self.assertEqual((len(told), read(told)), (4 * many, tree))
            self.assertIs(is_least(told), True)
            self.assertIs(is_least(made(tree)), len(made(tree)) == 4 * many)
            self.assertIs(is_least(file), len(file) == 4 * many)
            self.assertLessEqual(4 * many, len(file))
            shared += len(made(tree)) > 4 * many
        self.assertGreater(shared, 50)

    def test_too_great(self):
        def tree(order, more):
            rows = tuple([(tag, 1, (tag,) * 300) for tag in range(12)])
            return order, (rows + ((12, 1, (99,) * more),), rows)

        for order in ORDERS:
            file = least(tree(order, 40))
            self.assertEqual((needed(tree(order, 40)), len(file)), (2 + 4 + 75 + 900 + 10, 4 * 991))
            self.assertEqual(needed(tree(order, 76)), 1000)
            self.assertIs(is_least(least(tree(order, 76))), True)
            for more, many in ((77, 1001), (80, 1001), (81, 1002), (300, 1056)):
                self.assertEqual(needed(tree(order, more)), many)
                with self.assertRaises(TooGreat):
                    least(tree(order, more))

    def test_raw(self):
        for order in ORDERS:
            tree = (order, (((2, 5, ((), ((), ((3, 8, ()), (4, 9, ())),))), (9, 9, ())),
                            tuple([(tag, 1, (tag,) * 300) for tag in range(40)])))
            for call in (needed, least):
                with self.assertRaises(Raw) as caught:
                    call(tree)
                self.assertEqual((caught.exception.path, caught.exception.tag), ((0, 2, 1, 1), 3))


class IsLeastTest(unittest.TestCase):
    def test_odd_things(self):
        for thing in ODD + ((60, 60, 236, 7), (60, 60, 236, 7, 0, 0, 0, False), [60, 60, 236, 7, 0, 0, 0, 0], "least"):
            self.assertIs(is_least(thing), False)
        self.assertIs(is_least((60, 60, 236, 7, 0, 0, 0, 0)), True)
        self.assertIs(is_least((62, 62, 7, 236, 0, 0, 0, 0)), True)

    def test_what_is_not_read(self):
        for order in ORDERS:
            self.assertIs(is_least(laid(order, 2, {})), False)
            self.assertIs(is_least(laid(order, 2, {2: pair(order, 1, 0)})), False)
            self.assertIs(is_least((0,) * 40), False)
            self.assertIs(is_least(laid(order, 2, {2: table(order, 1, [(1, 4, 1, 0)])})), False)

    def test_raw_entries(self):
        for order in ORDERS:
            self.assertIs(is_least(laid(order, 2, {2: table(order, 1, [(1, 1, 0, 0)])})), True)
            self.assertIs(is_least(laid(order, 2, {2: table(order, 1, [(1, 7, 0, 0)])})), False)

    def test_a_cell_more(self):
        def rows(order, room):
            return table(order, room, [(1, 6, 2, 20), (2, 1, 8, 22)])

        for order in ORDERS:
            good = {2: table(order, 2, [(1, 6, 2, 10), (2, 1, 7, 12)]), 10: pointers(order, 14, 0), 12: (5,) * 8,
                    14: piece(order, (1,))}
            self.assertIs(is_least(laid(order, 2, good)), True)
            self.assertIs(is_least(laid(order, 2, good, cells=17)), False)
            # Unused room, a piece of none in a cell of its own, a piece twice.
            self.assertIs(is_least(laid(order, 2, {2: table(order, 1, [])})), False)
            self.assertIs(is_least(laid(order, 2, {**good, 10: pointers(order, 14, 16), 16: pointer(order, 0)})), False)
            self.assertIs(is_least(laid(order, 2, {**good, 10: pointers(order, 14, 14)})), True)
            self.assertIs(is_least(laid(order, 2, {**good, 10: pointers(order, 14, 16), 16: piece(order, (1,))})), False)

    def test_junk_does_not_matter(self):
        for at, (tree, _) in enumerate(drawn_files(40, raw=False)):
            file = list(least(tree))
            row = Row(at)
            for _ in range(10):
                place = row.below(len(file))
                elder = file[place]
                file[place] = row.below(256)
                if is_read_as(tuple(file), tree):
                    self.assertIs(is_least(tuple(file)), True)
                file[place] = elder


def is_read_as(file, tree):
    try:
        return read(file, known=KNOWN) == tree
    except ValueError:
        return False
