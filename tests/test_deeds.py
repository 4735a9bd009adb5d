import unittest

from tests.building import ODD, ORDERS, variants
from tests.deedmaking import drawn_deed
from tests.drawing import drawn_files
from tests.naive import naively_done
from tests.writing import Row
from tornentries.deeds import done, is_deed
from tornentries.errors import NoDeed, NoPiece, NoShare, NoTable, NoTag, Taken, TooDeep, TooMany, TornError
from tornentries.kinds import KNOWN
from tornentries.reading import read
from tornentries.trees import is_tree

DEEDS = (
    ("put", (0,), (5, 1, (1, 2))),
    ("put", (0, 5, 0, 0), (5, 5, (((),), ()))),
    ("change", (3,), (5, 4, "abc")),
    ("out", (0,), 5),
    ("share", (0,), 5, (1, 2, 3, 4), 6),
    ("piece", (0,), 5, 0, (1, 2, 255)),
    ("piece", (0,), 5, 299, ()),
    ("chain", (0,), ()),
    ("chain", (1, 70000, 2, 3, 4, 5, 6, 7, 8, 9), ((5, 1, ()), (6, 6, ((), (1,))))),
    ("cut", (0,)),
)


def deep(levels):
    """A chain in which so many chains stand, its own counted."""
    chain = ((),)
    for _ in range(levels - 1):
        chain = (((1, 5, (chain,)),),)
    return chain


class IsDeedTest(unittest.TestCase):
    def is_one(self, thing, told=True, **more):
        self.assertIs(is_deed(thing, **more), told, thing)

    def test_each_word(self):
        for deed in DEEDS:
            self.is_one(deed)

    def test_parts_more_and_fewer(self):
        for deed in DEEDS:
            self.is_one(list(deed), False)
            for at in range(len(deed)):
                self.is_one(deed[:at] + deed[at + 1:], False)
                self.is_one(deed[:at] + (deed[at],) + deed[at:], False)
            for more in (None, 0, (), (0,), "put"):
                self.is_one(deed + (more,), False)

    def test_words(self):
        for deed in DEEDS:
            for word in ("", "Put", "put ", "puts", "table", "is_deed", None, 0, True, (), [], {}, ("put",)):
                self.is_one((word,) + deed[1:], False)
        for deed in DEEDS:
            fitting = [word for word in ("put", "change", "out", "share", "piece", "chain", "cut")
                       if is_deed((word,) + deed[1:])]
            alike = {"put": ["put", "change"], "change": ["put", "change"]}.get(deed[0], [deed[0]])
            self.assertEqual(fitting, alike)

    def test_odd_things(self):
        for thing in ODD:
            self.is_one(thing, False)
            for deed in DEEDS:
                if not isinstance(thing, (int, tuple)) or isinstance(thing, bool):
                    for at in range(len(deed)):
                        self.is_one(deed[:at] + (thing,) + deed[at + 1:], False)

    def test_paths(self):
        for deed in DEEDS:
            at_other = [3] if deed[0] == "share" else []
            for at in [1] + at_other:
                for path in ((0,), (10 ** 99,), (0, 0, 0, 0), (0, 65536, 0, 0), (9,) * 7, (9,) * 10):
                    self.is_one(deed[:at] + (path,) + deed[at + 1:])
                for path in ((), (0, 0), (0, 0, 0), (0,) * 5, (0,) * 13, (-1,), (0, 0, 0, -1), (True,), (0, False, 0, 0),
                             (None,), ("0",), ((0,),), [0], 0, None, "0", (0, 0, 0, None)):
                    self.is_one(deed[:at] + (path,) + deed[at + 1:], False)

    def test_tags_and_numbers(self):
        for tag, told in ((0, True), (65535, True), (65536, False), (-1, False), (10 ** 99, False), (True, False),
                          (None, False), ("5", False), ((5,), False)):
            self.is_one(("out", (0,), tag), told)
            self.is_one(("share", (0,), tag, (0,), 5), told)
            self.is_one(("share", (0,), 5, (0,), tag), told)
            self.is_one(("piece", (0,), tag, 0, ()), told)
            self.is_one(("put", (0,), (tag, 1, ())), told)
            self.is_one(("change", (0,), (tag, 1, ())), told)
            self.is_one(("chain", (0,), ((tag, 1, ()),)), told)
        for k, told in ((0, True), (300, True), (10 ** 99, True), (-1, False), (True, False), (None, False), ("0", False)):
            self.is_one(("piece", (0,), 5, k, ()), told)

    def test_pieces(self):
        for piece, told in (((), True), ((0, 255), True), ((1,) * 300, True), ((1,) * 301, False), ((256,), False),
                            ((-1,), False), ((True,), False), ([1], False), (None, False), (((1,),), False), ("1", False)):
            self.is_one(("piece", (0,), 5, 0, piece), told)

    def test_entries_at_their_bounds(self):
        for entry, told in (((1, 1, (255,) * 300), True), ((1, 1, (256,)), False), ((1, 1, (1,) * 301), False),
                            ((1, 2, (65535,)), True), ((1, 2, (65536,)), False), ((1, 3, (2 ** 32 - 1,)), True),
                            ((1, 3, (2 ** 32,)), False), ((1, 4, "a" * 300), True), ((1, 4, "a" * 301), False),
                            ((1, 4, "a_"), False), ((1, 6, ((1,) * 300,) * 3), True), ((1, 6, ((1,) * 301,)), False),
                            ((1, 5, (deep(3),)), True), ((1, 5, (deep(4),)), False), ((1, 5, ((),) * 300), True),
                            ((1, 5, ((),) * 301), False), ((1, 5, (((),) * 10,)), True), ((1, 5, (((),) * 11,)), False),
                            ((1, 1), False), ((1, 1, (), ()), False), ([1, 1, ()], False), ((1, 1, []), False)):
            self.is_one(("put", (0,), entry), told)
            self.is_one(("change", (0, 1, 2, 3), entry), told)
            self.is_one(("chain", (0,), (entry,)), told)

    def test_tables_at_their_bounds(self):
        full = tuple([(tag, 1, ()) for tag in range(40)])
        for table, told in (((), True), (full, True), (full + ((40, 1, ()),), False), (full[::-1], False),
                            (((1, 1, ()), (1, 1, ())), False), (list(full), False), (None, False), (0, False)):
            self.is_one(("chain", (0,), table), told)

    def test_known_kinds_alone(self):
        for kind in (0, 7, 8, 9, 65535):
            for entry in ((1, kind, ()), (1, 5, ((((2, kind, ()),),),)), (1, 5, ((), ((), ((2, 5, ((((3, kind, ()),),),)),))))):
                self.is_one(("put", (0,), entry), False)
                self.is_one(("change", (0,), entry), False)
                self.is_one(("chain", (0,), (entry,)), False)
        for known in ((), (1,), (1, 2, 3, 4), (5,), (6,), KNOWN):
            for kind, worths in ((1, ()), (2, ()), (3, ()), (4, ""), (5, ()), (6, ())):
                entry = (1, kind, worths)
                self.is_one(("put", (0,), entry), kind in known, known=known)
                self.is_one(("change", (0,), entry), kind in known, known=known)
                self.is_one(("chain", (0,), (entry,)), kind in known, known=known)
                within = (1, 5, (((), (entry,)),))
                self.is_one(("put", (0,), within), kind in known and 5 in known, known=known)
                self.is_one(("chain", (0,), (within,)), kind in known and 5 in known, known=known)
            self.is_one(("chain", (0,), ()), known=known)
            self.is_one(("piece", (0,), 1, 0, (1,)), known=known)
            self.is_one(("share", (0,), 1, (0,), 1), known=known)
        # Raw worths of a kind that isn't known are none of a known one's.
        self.is_one(("put", (0,), (1, 4, (97,))), False, known=(1, 2))

    def test_one_thing_otherwise(self):
        for deed in DEEDS:
            for other in variants(deed):
                self.assertIn(is_deed(other), (True, False))


class DoneTest(unittest.TestCase):
    inner = ((2, 1, (9,)), (4, 6, ((1,), (), (2,))))
    table = ((1, 1, (7,)), (3, 5, ((), ((), inner))), (5, 4, "abc"))
    chain = ((), table, ((8, 9, (1, 2)),))

    def does(self, deed, chain, **more):
        for order in ORDERS:
            tree = (order, self.chain)
            kept = (order, tuple(list(self.chain)))
            self.assertEqual(done(tree, deed, **more), (order, chain), deed)
            self.assertIs(is_tree(done(tree, deed, **more), **more), True)
            self.assertEqual(tree, kept)

    def with_table(self, table):
        return (self.chain[0], table, self.chain[2])

    def with_inner(self, *tables):
        return self.with_table((self.table[0], (3, 5, ((), ((),) + tables)), self.table[2]))

    def test_put(self):
        for tag, at in ((0, 0), (2, 1), (4, 2), (6, 3), (65535, 3)):
            entry = (tag, 2, (300,))
            self.does(("put", (1,), entry), self.with_table(self.table[:at] + (entry,) + self.table[at:]))
        for tag, at in ((0, 0), (3, 1), (5, 2)):
            entry = (tag, 5, (((),),))
            self.does(("put", (1, 3, 1, 1), entry), self.with_inner(self.inner[:at] + (entry,) + self.inner[at:]))
        self.does(("put", (0,), (7, 4, "")), (((7, 4, ""),),) + self.chain[1:])

    def test_change(self):
        self.does(("change", (1,), (1, 1, (8,))), self.with_table(((1, 1, (8,)),) + self.table[1:]))
        self.does(("change", (1,), (3, 4, "x")), self.with_table((self.table[0], (3, 4, "x"), self.table[2])))
        self.does(("change", (1,), (5, 5, (((),),))), self.with_table(self.table[:2] + ((5, 5, (((),),)),)))
        self.does(("change", (1, 3, 1, 1), (4, 6, ())), self.with_inner((self.inner[0], (4, 6, ()))))
        self.does(("change", (1,), self.table[0]), self.chain)
        self.does(("change", (2,), (8, 1, (3,))), self.chain[:2] + (((8, 1, (3,)),),))

    def test_out(self):
        for at, entry in enumerate(self.table):
            self.does(("out", (1,), entry[0]), self.with_table(self.table[:at] + self.table[at + 1:]))
        self.does(("out", (1, 3, 1, 1), 2), self.with_inner(self.inner[1:]))
        self.does(("out", (2,), 8), self.chain[:2] + ((),))

    def test_share(self):
        self.does(("share", (1,), 2, (1, 3, 1, 1), 4), self.with_table(
            self.table[:1] + ((2, 6, ((1,), (), (2,))),) + self.table[1:]))
        self.does(("share", (1, 3, 1, 1), 9, (1,), 5), self.with_inner(self.inner + ((9, 4, "abc"),)))
        self.does(("share", (1, 3, 1, 0), 0, (1, 3, 1, 1), 2), self.with_table(
            (self.table[0], (3, 5, ((), (((0, 1, (9,)),), self.inner))), self.table[2])))
        self.does(("share", (1,), 4, (1,), 1), self.with_table(self.table[:2] + ((4, 1, (7,)),) + self.table[2:]))

    def test_piece(self):
        for k in range(3):
            for piece in ((), (1,), (2,), (9,) * 300):
                pieces = self.inner[1][2][:k] + (piece,) + self.inner[1][2][k + 1:]
                self.does(("piece", (1, 3, 1, 1), 4, k, piece), self.with_inner((self.inner[0], (4, 6, pieces))))

    def test_chain(self):
        for n in range(4):
            self.does(("chain", (n,), self.inner), self.chain[:n] + (self.inner,) + self.chain[n:])
        self.does(("chain", (1, 3, 0, 0), ()), self.with_table(
            (self.table[0], (3, 5, (((),), ((), self.inner))), self.table[2])))
        self.does(("chain", (1, 3, 1, 0), self.inner), self.with_table(
            (self.table[0], (3, 5, ((), (self.inner, (), self.inner))), self.table[2])))
        self.does(("chain", (1, 3, 1, 2), self.inner), self.with_inner(self.inner, self.inner))
        for order in ORDERS:
            self.assertEqual(done((order, ()), ("chain", (0,), ())), (order, ((),)))

    def test_cut(self):
        for n in range(3):
            self.does(("cut", (n,)), self.chain[:n] + self.chain[n + 1:])
        self.does(("cut", (1, 3, 1, 1)), self.with_inner())
        self.does(("cut", (1, 3, 1, 0)), self.with_table((self.table[0], (3, 5, ((), (self.inner,))), self.table[2])))

    def test_the_deepest_table(self):
        tree = ("small", deep(4))
        path = (0, 1, 0, 0, 1, 0, 0, 1, 0, 0)
        for deed in (("put", path, (1, 5, ((), ()))), ("chain", path, ()), ("cut", path), ("chain", path[:-1] + (1,), ())):
            self.assertEqual(done(tree, deed), naively_done(tree, deed))

    def test_drawn_deeds(self):
        words = {}
        for at, (_, file) in enumerate(drawn_files(80, least=20)):
            row = Row(at)
            for known in (KNOWN, (1, 4, 5), (1, 2, 3, 4, 6)):
                tree = read(file, known=known)
                for _ in range(12):
                    deed = drawn_deed(row, tree, known)
                    try:
                        told = done(tree, deed, known=known)
                    except TornError:
                        continue
                    words[deed[0]] = words.get(deed[0], 0) + 1
                    self.assertEqual(told, naively_done(tree, deed))
                    self.assertIs(is_tree(told, known=known), True)
        self.assertEqual(len(words), 7)
        self.assertGreater(min(words.values()), 10, words)


class RefusalTest(unittest.TestCase):
    inner = ((2, 1, (9,)), (4, 6, ((1,), (2,))))
    table = ((1, 1, (7,)), (3, 5, ((), ((), inner))), (5, 4, "abc"), (6, 9, (1, 2)), (7, 6, ()))
    full = tuple([(tag, 1, ()) for tag in range(40)])
    chain = (table, (), full)

    def refuses(self, error, deed, chain=None, field=None, known=KNOWN):
        for order in ORDERS:
            tree = (order, self.chain if chain is None else chain)
            kept = (tree[0], tuple(list(tree[1])))
            with self.assertRaises(error, msg=deed) as caught:
                done(tree, deed, known=known)
            self.assertIs(type(caught.exception), error)
            if field is not None:
                self.assertEqual(getattr(caught.exception, field[0]), field[1])
            self.assertEqual(tree, kept)

    def test_no_deed(self):
        for thing in ODD + (("put", (0,), (1, 9, ())), ("put", (9,), (1, 1, (256,))), ("cut",), ["cut", (0,)],
                            ("cut", (True,)), ("out", (0,), 65536), ("piece", (0,), 4, -1, ()), ("puts", (0,), (1, 1, ()))):
            self.refuses(NoDeed, thing)
        self.refuses(NoDeed, ("put", (0,), (1, 2, ())), known=(1, 5))

    def test_no_table(self):
        missing = ((3,), (10 ** 50,), (0, 3, 0, 0), (0, 3, 1, 2), (0, 3, 2, 0), (0, 2, 0, 0), (0, 1, 0, 0), (0, 6, 0, 0),
                   (1, 3, 0, 0), (3, 3, 1, 0), (0, 3, 1, 1, 2, 0, 0), (0, 70000, 0, 0), (0, 3, 1, 0) + (0,) * 6)
        for path in missing:
            for deed in (("put", path, (9, 1, ())), ("change", path, (1, 1, ())), ("out", path, 1),
                         ("share", path, 9, (0,), 1), ("share", (0,), 9, path, 1), ("piece", path, 4, 0, ()), ("cut", path)):
                self.refuses(NoTable, deed, field=("path", path))

    def test_no_table_of_chain(self):
        for path in ((4,), (0, 3, 0, 1), (0, 3, 1, 3), (0, 3, 2, 0), (0, 2, 0, 0), (1, 3, 0, 0), (3, 3, 0, 0), (0, 6, 0, 0),
                     (0, 3, 1, 2, 2, 0, 0), (9, 3, 0, 0)):
            self.refuses(NoTable, ("chain", path, ()), field=("path", path))

    def test_of_share_its_first_path_ahead_of_the_other(self):
        self.refuses(NoTable, ("share", (8,), 9, (9,), 1), field=("path", (8,)))
        self.refuses(NoTable, ("share", (9,), 9, (8,), 1), field=("path", (9,)))

    def test_no_table_where_5_is_not_known(self):
        self.refuses(NoTable, ("cut", (0, 3, 1, 0)), chain=(((3, 5, (1,) * 8),),), field=("path", (0, 3, 1, 0)),
                     known=(1, 2, 3, 4, 6))
        self.refuses(NoTable, ("chain", (0, 3, 1, 0), ()), chain=(((3, 5, (1,) * 8),),), known=(1, 2, 3, 4, 6))

    def test_no_tag(self):
        for tag in (0, 2, 8, 65535):
            self.refuses(NoTag, ("change", (0,), (tag, 1, ())), field=("tag", tag))
            self.refuses(NoTag, ("out", (0,), tag), field=("tag", tag))
            self.refuses(NoTag, ("piece", (0,), tag, 0, ()), field=("tag", tag))
            self.refuses(NoTag, ("share", (1,), 1, (0,), tag), field=("tag", tag))
        self.refuses(NoTag, ("out", (1,), 0), field=("tag", 0))

    def test_no_tag_of_piece(self):
        for tag in (1, 3, 5, 6):
            self.refuses(NoTag, ("piece", (0,), tag, 0, ()), field=("tag", tag))
            self.refuses(NoTag, ("piece", (0,), tag, 999, ()), field=("tag", tag))
        self.refuses(NoTag, ("piece", (0,), 7, 0, ()), chain=(((7, 6, (0, 0, 0, 9)),),), field=("tag", 7), known=(1, 5))

    def test_no_share(self):
        for other in (3, 6):
            self.refuses(NoShare, ("share", (1,), 1, (0,), other))
        self.refuses(NoShare, ("share", (1,), 1, (0,), 5), chain=(((5, 4, (97,)),), ()), known=(1, 2))
        self.refuses(NoShare, ("share", (1,), 1, (0,), 5), chain=(((5, 5, (0,) * 8),), ()), known=(1, 2))

    def test_taken(self):
        for tag in (1, 3, 5, 6, 7):
            self.refuses(Taken, ("put", (0,), (tag, 1, ())), field=("tag", tag))
            self.refuses(Taken, ("share", (0,), tag, (0,), 1), field=("tag", tag))

    def test_no_piece(self):
        path = (0, 3, 1, 1)
        for k in (2, 3, 10 ** 50):
            self.refuses(NoPiece, ("piece", path, 4, k, ()), field=("k", k))
        self.refuses(NoPiece, ("piece", (0,), 7, 0, ()), field=("k", 0))

    def test_too_many(self):
        self.refuses(TooMany, ("put", (2,), (40, 1, ())))
        self.refuses(TooMany, ("share", (2,), 40, (0,), 1))
        self.refuses(TooMany, ("chain", (0,), ()), chain=((),) * 10)
        self.refuses(TooMany, ("chain", (10,), ()), chain=((),) * 10)
        self.refuses(TooMany, ("chain", (0, 3, 0, 4), ()), chain=(((3, 5, (((),) * 10,)),),))
        for deed, chain in ((("put", (0,), (39, 1, ())), (self.full[:39],)), (("chain", (0,), ()), ((),) * 9),
                            (("change", (0,), (39, 1, (1,))), (self.full,))):
            self.assertEqual(done(("small", chain), deed), naively_done(("small", chain), deed))

    def test_too_deep(self):
        paths = ((0,), (0, 1, 0, 0), (0, 1, 0, 0, 1, 0, 0), (0, 1, 0, 0, 1, 0, 0, 1, 0, 0))
        tree = ("small", deep(4))
        for level, path in enumerate(paths):
            for inner in range(1, 4):
                entry = (9, 5, ((), deep(inner)))
                for deed in (("put", path, entry), ("change", path, (1,) + entry[1:]), ("chain", path, (entry,))):
                    if deed[0] == "change" and level == 3:
                        deed = ("put", path, (1,) + entry[1:])
                    if 1 + level + inner > 4:
                        self.refuses(TooDeep, deed, chain=deep(4))
                    else:
                        self.assertEqual(done(tree, deed), naively_done(tree, deed))
            # A chain of no table doesn't count.
            for deed in (("put", path, (9, 5, ((), ()))), ("chain", path, ((9, 5, ((),)),))):
                self.assertEqual(done(tree, deed), naively_done(tree, deed))

    def test_which_is_told_first(self):
        deeper = (1, 5, (deep(3),))
        last = (0, 1, 0, 0, 1, 0, 0, 1, 0, 0)
        full = tuple([(tag, 1, ()) for tag in range(39)]) + ((39, 5, (deep(3),)),)
        inner_full = (0, 39, 0, 0)
        deep_full = (full[:39] + ((39, 5, ((self.full,),)),),)
        self.refuses(NoDeed, ("put", (99,), (1, 9, ())))
        self.refuses(NoDeed, ("share", (99,), 9, (98,), 65536))
        self.refuses(NoTable, ("share", (99,), 1, (0,), 2), field=("path", (99,)))
        self.refuses(NoTable, ("put", (99,), deeper))
        self.refuses(NoTable, ("chain", (11,), (deeper,)), chain=((),) * 10)
        self.refuses(NoTag, ("share", (0,), 1, (0,), 2), field=("tag", 2))
        self.refuses(NoTag, ("share", (2,), 1, (0,), 2), field=("tag", 2))
        self.refuses(NoTag, ("change", last, (9,) + deeper[1:]), chain=deep(4), field=("tag", 9))
        self.refuses(NoShare, ("share", (0,), 1, (0,), 3))
        self.refuses(NoShare, ("share", (2,), 1, (0,), 6))
        self.refuses(NoShare, ("share", (2,), 99, (0,), 6))
        self.refuses(Taken, ("put", (2,), (1, 1, ())), field=("tag", 1))
        self.refuses(Taken, ("share", (2,), 1, (0,), 1), field=("tag", 1))
        self.refuses(Taken, ("put", inner_full, (1,) + deeper[1:]), chain=deep_full, field=("tag", 1))
        self.refuses(TooMany, ("put", inner_full, (50,) + deeper[1:]), chain=deep_full)
        self.refuses(TooMany, ("chain", (0, 1, 0, 0), (deeper,)), chain=(((1, 5, (((),) * 10,)),),))
        self.refuses(TooDeep, ("chain", (0, 1, 0, 0), (deeper,)), chain=(((1, 5, (((),) * 9,)),),))
