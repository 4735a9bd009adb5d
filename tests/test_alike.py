import unittest

from tests.building import ORDERS
from tests.deedmaking import drawn_deed
from tests.drawing import drawn_files, has_raw
from tests.writing import Row
from tornentries.alike import first_unlike
from tornentries.deeds import done
from tornentries.errors import TornError
from tornentries.kinds import KNOWN
from tornentries.making import turned

INNER = (((2, 1, (1, 2)), (4, 5, ((), (((1, 4, "a"),),)))), ())
CHAIN = (((1, 1, (7,)), (3, 5, (INNER, ())), (5, 6, ((1,), ()))), (), ((8, 2, (300,)),))
BOTH = [(one, other) for one in ORDERS for other in ORDERS]


class AlikeTest(unittest.TestCase):
    def parts(self, one, other, told, pairs=BOTH, **more):
        """What parts two chains, either of them handed in first, in trees of these orders."""
        for order, mate in pairs:
            self.assertEqual(first_unlike((order, one), (mate, other), **more), told)
            self.assertEqual(first_unlike((mate, other), (order, one), **more), told)

    def with_inner(self, *tables):
        return self.with_entry(1, (3, 5, (tables, ())))

    def with_entry(self, at, *entries):
        return (CHAIN[0][:at] + entries + CHAIN[0][at + 1:],) + CHAIN[1:]

    def test_a_tree_and_itself(self):
        self.parts(CHAIN, CHAIN, None)
        self.parts((), (), None)
        for tree, _ in drawn_files(40):
            self.assertIsNone(first_unlike(tree, tree))
            if not has_raw(tree[1], KNOWN):
                for order in ORDERS:
                    self.assertIsNone(first_unlike(tree, turned(tree, order)))

    def test_a_table_more(self):
        self.parts(CHAIN, CHAIN + ((),), ("table", (3,)))
        self.parts(CHAIN, CHAIN + ((), ()), ("table", (3,)))
        self.parts(CHAIN, (), ("table", (0,)))
        self.parts((), ((),), ("table", (0,)))
        self.parts(CHAIN, self.with_inner(*INNER[:1]), ("table", (0, 3, 0, 1)))
        self.parts(CHAIN, self.with_inner(), ("table", (0, 3, 0, 0)))
        self.parts(CHAIN, self.with_entry(1, (3, 5, (INNER, ((),)))), ("table", (0, 3, 1, 0)))

    def test_an_entry_more(self):
        for tag in (0, 2, 4, 6, 65535):
            rows = tuple(sorted(CHAIN[0] + ((tag, 1, ()),), key=lambda entry: entry[0]))
            self.parts(CHAIN, (rows,) + CHAIN[1:], ("entry", (0,), tag))
        for at, entry in enumerate(CHAIN[0]):
            self.parts(CHAIN, self.with_entry(at), ("entry", (0,), entry[0]))
        self.parts(CHAIN, self.with_inner(INNER[0][:1], ()), ("entry", (0, 3, 0, 0), 4))
        self.parts(CHAIN, self.with_inner(INNER[0], ((9, 1, ()),)), ("entry", (0, 3, 0, 1), 9))
        self.parts(CHAIN, CHAIN[:1] + (((0, 4, ""),),) + CHAIN[2:], ("entry", (1,), 0))

    def test_an_entry_otherwise(self):
        for at, entry in ((0, (1, 1, (8,))), (0, (1, 1, ())), (0, (1, 2, (7,))), (0, (1, 4, "a")), (2, (5, 6, ((1,),))),
                          (2, (5, 6, ((), (1,)))), (2, (5, 5, ())), (0, (1, 5, ())), (1, (3, 6, ())), (1, (3, 1, ()))):
            self.parts(CHAIN, self.with_entry(at, entry), ("entry", (0,), entry[0]))
        self.parts(CHAIN, self.with_inner(((2, 1, (1, 3)),) + INNER[0][1:], ()), ("entry", (0, 3, 0, 0), 2))
        deep = ((2, 1, (1, 2)), (4, 5, ((), (((1, 4, "b"),),))))
        self.parts(CHAIN, self.with_inner(deep, ()), ("entry", (0, 3, 0, 0, 4, 1, 0), 1))

    def test_another_count_of_chains(self):
        for chains in ((), (INNER,), (INNER, (), ())):
            self.parts(CHAIN, self.with_entry(1, (3, 5, chains)), ("entry", (0,), 3))
        # As many, and one of them otherwise: that is told by its tables.
        self.parts(CHAIN, self.with_entry(1, (3, 5, ((), INNER))), ("table", (0, 3, 0, 0)))

    def test_which_is_told_first(self):
        # A table whole ahead of the next one, and of one that is missing.
        self.parts((((1, 1, ()),),), (((1, 1, (2,)),), ()), ("entry", (0,), 1))
        self.parts(((), ((1, 1, ()),)), (((4, 1, ()),), ((0, 1, ()),)), ("entry", (0,), 4))
        # Rising tags, whichever of the two has them.
        self.parts((((2, 1, ()), (3, 1, ())),), (((1, 1, ()), (3, 1, (1,))),), ("entry", (0,), 1))
        self.parts((((1, 1, ()), (2, 1, ())),), (((1, 1, ()), (3, 1, ())),), ("entry", (0,), 2))
        # What an entry leads to ahead of the next tag, each chain whole ahead of the next one.
        one = (((1, 5, ((((5, 1, ()),),), ())), (2, 1, ())),)
        self.parts(one, (((1, 5, ((((5, 1, (1,)),),), ((),))), (2, 1, (1,))),), ("entry", (0, 1, 0, 0), 5))
        self.parts(one, (((1, 5, ((((5, 1, ()),), ()), ((),))), (2, 1, (1,))),), ("table", (0, 1, 0, 1)))
        self.parts(one, (((1, 5, ((((5, 1, ()),),), ((),))), (2, 1, (1,))),), ("table", (0, 1, 1, 0)))
        self.parts(one, (((1, 5, ((((5, 1, ()),),), ())), (2, 1, (1,))), ()), ("entry", (0,), 2))
        self.parts(one, one + ((),), ("table", (1,)))

    def test_raw_entries(self):
        same, across = [pair for pair in BOTH if pair[0] == pair[1]], [pair for pair in BOTH if pair[0] != pair[1]]
        for kind in (0, 7, 8, 9):
            for worths in ((), (1, 1, 1, 1), (7,) * 8):
                one = (((1, 1, (7,)), (3, kind, worths)),)
                self.parts(one, one, None, same)
                self.parts(one, one, ("entry", (0,), 3), across)
                within = (((4, 5, (one,)), (5, kind, worths)),)
                self.parts(within, within, None, same)
                self.parts(within, within, ("entry", (0, 4, 0, 0), 3), across)
                self.parts(one, (((1, 1, (7,)), (3, kind, worths + (1, 1, 1, 1))),), ("entry", (0,), 3))
                # What parts the two ahead of it is told first.
                self.parts(one, (((1, 1, (8,)), (3, kind, worths)),), ("entry", (0,), 1))

    def test_fewer_known_kinds(self):
        same, across = [pair for pair in BOTH if pair[0] == pair[1]], [pair for pair in BOTH if pair[0] != pair[1]]
        one = (((1, 1, (7,)), (2, 5, (0, 0, 0, 9)), (3, 4, (97,))),)
        self.parts(one, one, None, same, known=(1,))
        self.parts(one, one, ("entry", (0,), 2), across, known=(1,))
        self.parts(one, one, ("entry", (0,), 1), across, known=())
        self.parts(one, (((1, 1, (7,)), (2, 5, (0, 0, 0, 8)), (3, 4, (97,))),), ("entry", (0,), 2), known=(1, 4))

    def test_drawn_deeds(self):
        told = {"table": 0, "entry": 0, None: 0}
        for at, (tree, _) in enumerate(drawn_files(60, least=20)):
            row = Row(at)
            for _ in range(10):
                deed = drawn_deed(row, tree)
                try:
                    other = done(tree, deed)
                except TornError:
                    continue
                found = first_unlike(tree, other)
                told[found and found[0]] += 1
                self.assertEqual(found is None, tree == other)
                self.assertEqual(first_unlike(other, tree), found)
                tag = {"put": lambda: deed[2][0], "out": lambda: deed[2], "share": lambda: deed[2]}.get(deed[0])
                if tag:
                    self.assertEqual(found, ("entry", deed[1], tag()))
        self.assertGreater(min(told["table"], told["entry"]), 20, told)
