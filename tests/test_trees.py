import unittest

from tests.building import ODD, nested
from tornentries.errors import NoTable, NoTag
from tornentries.trees import entry_at, is_entry, is_table, is_tree, table_at


def deep_chain(many, last=()):
    """Chains with a table, so many in one another; last is the innermost table."""
    chain = (last,)
    for _ in range(many - 1):
        chain = (((7, 5, (chain,)),),)
    return chain


def deep_entry(many, last=()):
    """An entry whose chains stand so many deep."""
    return (7, 5, (deep_chain(many, last),))


EMPTY_CHAINS = ((9, 5, ((), ())),)

GOOD_ENTRIES = (
    (0, 0, ()), (65535, 65535, (255,)), (3, 1, (1, 2, 255)), (3, 2, (65535,)), (3, 3, (2 ** 32 - 1,)), (3, 4, "a b"),
    (3, 5, ()), (3, 5, ((), ())), (3, 5, (((),),)), (3, 6, ()), (3, 6, ((), (0, 255))), (3, 6, ((9,) * 300,) * 2),
    (3, 6, ((),) * 300), (3, 5, ((),) * 300), (3, 7, (1, 2)), (3, 8, (1, 2, 3, 4)), (3, 5, (((),) * 10,)),
)

BAD_ENTRIES = (
    (-1, 1, ()), (65536, 1, ()), (1, -1, ()), (1, 65536, ()), (True, 1, ()), (1, True, ()), (None, 1, ()), ("1", 1, ()),
    (1, None, ()), (1, "1", ()), (1, 1), (1, 1, (), ()), [1, 1, ()], (1, 1, []), (1, 1, (256,)), (1, 4, ()), (1, 4, "_"),
    (1, 5, ((1,),)), (1, 5, (1,)), (1, 5, [()]), (1, 5, ([],)), (1, 5, ((),) * 301), (1, 5, (((),) * 11,)), (1, 5, ""),
    (1, 5, (([],),)), (1, 5, (((1,),),)), (1, 5, ((((1, 1, (256,)),),),)), (1, 6, (1,)), (1, 6, ([],)), (1, 6, [()]),
    (1, 6, ((256,),)), (1, 6, ((-1,),)), (1, 6, ((True,),)), (1, 6, ((1,) * 301,)), (1, 6, ((),) * 301), (1, 6, ("",)),
    (1, 7, (1,)), (1, 8, (1, 2)), ((1,), 1, ()), (1, 1, None), (1, 5, None), (1, 6, None), (1, 5, {}), (1, 6, {}),
)


class IsEntryTest(unittest.TestCase):
    def test_entries(self):
        for entry in GOOD_ENTRIES:
            self.assertIs(is_entry(entry), True, entry)

    def test_others(self):
        for entry in BAD_ENTRIES:
            self.assertIs(is_entry(entry), False, entry)
        for thing in ODD:
            self.assertIs(is_entry(thing), False, thing)

    def test_depth(self):
        for many in (1, 2, 3):
            self.assertIs(is_entry(deep_entry(many)), True)
        self.assertIs(is_entry(deep_entry(4)), False)
        self.assertIs(is_entry(deep_entry(8)), False)
        self.assertIs(is_entry(deep_entry(3, EMPTY_CHAINS)), True)

    def test_for_fewer_known_kinds(self):
        for kind, known_worths, wide in ((1, (1,), 1), (2, (256,), 2), (3, (256,), 4), (4, "a", 1), (5, ((),), 4), (6, ((),), 4)):
            others = tuple([k for k in (1, 2, 3, 4, 5, 6) if k != kind])
            for known in ((), others):
                raw = (1, kind, (0,) * wide)
                self.assertIs(is_entry(raw, known=known), True, (kind, known))
                self.assertIs(is_entry((1, kind, (0,) * wide * 2), known=known), True)
                if kind != 1:
                    self.assertIs(is_entry((1, kind, known_worths), known=known), False, (kind, known))
            self.assertIs(is_entry((1, kind, known_worths), known=(kind,)), True, kind)
        self.assertIs(is_entry(deep_entry(1), known=(1, 2, 3, 4, 6)), False)
        self.assertIs(is_entry((1, 5, ((((2, 4, (97,)),),),)), known=(5,)), True)
        self.assertIs(is_entry((1, 5, ((((2, 4, "a"),),),)), known=(5,)), False)


class IsTableTest(unittest.TestCase):
    def test_forty_entries(self):
        self.assertIs(is_table(()), True)
        self.assertIs(is_table(tuple([(tag, 1, (tag,)) for tag in range(40)])), True)
        self.assertIs(is_table(tuple([(tag, 1, (tag,)) for tag in range(41)])), False)

    def test_tags(self):
        self.assertIs(is_table(((1, 1, ()), (2, 1, ()), (65535, 1, ()))), True)
        for tags in ((1, 1), (2, 1), (1, 2, 2), (1, 3, 2), (0, 5, 0)):
            self.assertIs(is_table(tuple([(tag, 1, ()) for tag in tags])), False, tags)

    def test_entries_in_it(self):
        for entry in GOOD_ENTRIES:
            self.assertIs(is_table((entry,)), True, entry)
        for entry in BAD_ENTRIES:
            self.assertIs(is_table((entry,)), False, entry)
        self.assertIs(is_table(((1, 1, ()), (2, 1, (256,)))), False)

    def test_anything(self):
        for thing in ODD:
            self.assertIs(is_table(thing), thing == (), thing)
        self.assertIs(is_table([(1, 1, ())]), False)
        self.assertIs(is_table((1, 1, ())), False)

    def test_depth(self):
        self.assertIs(is_table((deep_entry(3),)), True)
        self.assertIs(is_table((deep_entry(4),)), False)

    def test_for_fewer_known_kinds(self):
        self.assertIs(is_table(((1, 4, "a"),), known=(1,)), False)
        self.assertIs(is_table(((1, 4, (200,)),), known=(1,)), True)


class IsTreeTest(unittest.TestCase):
    def test_trees(self):
        for order in ("small", "great"):
            self.assertIs(is_tree((order, ())), True)
            self.assertIs(is_tree((order, ((),) * 10)), True)
            self.assertIs(is_tree((order, ((),) * 11)), False)
            for entry in GOOD_ENTRIES:
                self.assertIs(is_tree((order, ((entry,),))), True, entry)
            for entry in BAD_ENTRIES:
                self.assertIs(is_tree((order, ((), (entry,),))), False, entry)

    def test_tables_and_tags(self):
        full = tuple([(tag, 1, ()) for tag in range(41)])
        self.assertIs(is_tree(("small", (full[:40],) * 10)), True)
        self.assertIs(is_tree(("small", (full,))), False)
        self.assertIs(is_tree(("small", (((2, 1, ()), (1, 1, ())),))), False)
        self.assertIs(is_tree(("small", (((2, 1, ()),), ((1, 1, ()),)))), True)

    def test_depth(self):
        for many in (1, 2, 3, 4):
            self.assertIs(is_tree(("great", deep_chain(many))), True, many)
            self.assertIs(is_tree(("great", deep_chain(many, EMPTY_CHAINS))), True, many)
        self.assertIs(is_tree(("great", deep_chain(5))), False)
        self.assertIs(is_tree(("great", ((),) + deep_chain(5))), False)
        self.assertIs(is_tree(("great", (((1, 5, ((), deep_chain(3))),),))), True)
        self.assertIs(is_tree(("great", (((1, 5, ((), deep_chain(4))),),))), False)

    def test_others(self):
        for thing in (("Small", ()), ("", ()), (None, ()), (1, ()), (True, ()), ((), ()), ([], ()), ("small", [()]),
                      ("small", None), ("small", ""), ("small", {}), ("small", (), ()), ["small", ()], "small", ("small", ([],)),
                      ("small", (None,)), ({}, ()), ((), "small")):
            self.assertIs(is_tree(thing), False, thing)
        for thing in ODD:
            self.assertIs(is_tree(thing), False, thing)
        self.assertIs(is_tree(("small", nested(27))), False)
        self.assertIs(is_tree(("small", (nested(26),))), False)

    def test_for_fewer_known_kinds(self):
        self.assertIs(is_tree(("small", deep_chain(2)), known=(1, 2, 3, 4, 6)), False)
        self.assertIs(is_tree(("small", (((1, 5, (0, 0, 0, 2)),),)), known=(1, 2, 3, 4, 6)), True)
        self.assertIs(is_tree(("small", (((1, 5, (0, 0, 0, 2)),),))), False)
        self.assertIs(is_tree(("small", (((1, 6, ((1,),)),),)), known=(5,)), False)
        self.assertIs(is_tree(("small", ()), known=()), True)


LEAF = ((4, 4, "leaf"), (6, 2, (600,)))
THIRD = ((3, 5, ((), (LEAF,))),)
SECOND = ((2, 5, ((THIRD, ()),)), (9, 1, (5,)))
FIRST = ((1, 5, ((), (), ((), SECOND))), (2, 6, ((1,),)), (65535, 7, (0, 0)))
TREE = ("small", ((), FIRST))
TO_SECOND = (1, 1, 2, 1)
TO_THIRD = TO_SECOND + (2, 0, 0)
TO_LEAF = TO_THIRD + (3, 1, 0)


class TableAtTest(unittest.TestCase):
    def refused(self, tree, path, **known):
        with self.assertRaises(NoTable) as caught:
            table_at(tree, path, **known)
        return caught.exception.path

    def test_it_is_a_tree(self):
        self.assertIs(is_tree(TREE), True)

    def test_paths(self):
        self.assertEqual(table_at(TREE, (0,)), ())
        self.assertEqual(table_at(TREE, (1,)), FIRST)
        self.assertEqual(table_at(TREE, (1, 1, 2, 0)), ())
        self.assertEqual(table_at(TREE, TO_SECOND), SECOND)
        self.assertEqual(table_at(TREE, TO_THIRD), THIRD)
        self.assertEqual(table_at(TREE, TO_SECOND + (2, 0, 1)), ())
        self.assertEqual(table_at(TREE, TO_LEAF), LEAF)

    def test_paths_that_lead_nowhere(self):
        for path in ((2,), (10 ** 99,), (0, 1, 2, 1), (2, 1, 2, 1), (1, 1, 2, 2), (1, 1, 3, 0), (1, 1, 0, 0), (1, 2, 0, 0),
                     (1, 3, 0, 0), (1, 70000, 0, 0), (1, 65535, 0, 0), TO_SECOND + (2, 0, 2), TO_SECOND + (2, 1, 0),
                     TO_SECOND + (9, 0, 0), TO_THIRD + (3, 0, 0), TO_THIRD + (3, 1, 1), TO_THIRD + (2, 1, 0),
                     (0, 1, 2, 1, 2, 0, 0), (1, 0, 2, 1, 2, 0, 0, 3, 1, 0)):
            self.assertEqual(self.refused(TREE, path), path)
        self.assertEqual(self.refused(("great", ()), (0,)), (0,))

    def test_what_is_no_path(self):
        for path in ((), (0, 1), (0, 1, 2), (1, 1, 2, 1, 2), TO_LEAF + (4, 0, 0), TO_LEAF + (0,), (-1,), (1, 1, 2, -1),
                     (1, -1, 2, 1), (True,), (False,), (1, True, 2, 1), (1, 1, 2, True), (None,), ("0",), ([0],), [0], [1],
                     [1, 1, 2, 1], "0", 0, 1, None, True, {}, {0: 0}):
            self.assertIsNone(self.refused(TREE, path), path)
        for thing in ODD:
            self.assertIsNone(self.refused(TREE, thing), thing)

    def test_where_tables_are_not_known(self):
        known = (1, 2, 3, 4, 6)
        self.assertEqual(table_at(TREE, (1,), known=known), FIRST)
        for path in (TO_SECOND, TO_THIRD, TO_LEAF, (1, 1, 2, 0)):
            self.assertEqual(self.refused(TREE, path, known=known), path)
            self.assertEqual(self.refused(TREE, path, known=()), path)
        self.assertEqual(table_at(TREE, TO_LEAF, known=(5,)), LEAF)
        raw = ("small", (((1, 5, (1, 0, 0, 0)),),))
        self.assertEqual(self.refused(raw, (0, 1, 0, 0), known=known), (0, 1, 0, 0))


class EntryAtTest(unittest.TestCase):
    def refused(self, error, tree, path, tag, **known):
        with self.assertRaises(error) as caught:
            entry_at(tree, path, tag, **known)
        return caught.exception

    def test_entries(self):
        self.assertEqual(entry_at(TREE, TO_LEAF, 4), (4, 4, "leaf"))
        self.assertEqual(entry_at(TREE, TO_LEAF, 6), (6, 2, (600,)))
        self.assertEqual(entry_at(TREE, (1,), 1), FIRST[0])
        self.assertEqual(entry_at(TREE, (1,), 2), FIRST[1])
        self.assertEqual(entry_at(TREE, (1,), 65535), (65535, 7, (0, 0)))

    def test_tags_that_are_not_there(self):
        for tag in (0, 3, 65534, 65536, 70000, -1, 10 ** 99, -10 ** 99):
            self.assertEqual(self.refused(NoTag, TREE, (1,), tag).tag, tag)
            self.assertEqual(self.refused(NoTag, TREE, (0,), tag).tag, tag)
        self.assertEqual(self.refused(NoTag, TREE, TO_SECOND, 1).tag, 1)

    def test_what_is_no_tag(self):
        for tag in ODD:
            told = self.refused(NoTag, TREE, (0,), tag).tag
            if isinstance(tag, int) and not isinstance(tag, bool):
                self.assertEqual(told, tag)
            else:
                self.assertIsNone(told, tag)
        for tag in (True, False, None, "", "1", (), (1,), [], [1], {}):
            self.assertIsNone(self.refused(NoTag, TREE, (1,), tag).tag, tag)

    def test_the_table_is_asked_for_first(self):
        self.assertEqual(self.refused(NoTable, TREE, (7,), 99).path, (7,))
        self.assertIsNone(self.refused(NoTable, TREE, [1], None).path)
        self.assertIsNone(self.refused(NoTable, TREE, "", True).path)

    def test_where_tables_are_not_known(self):
        self.assertEqual(entry_at(TREE, (1,), 1, known=(1,)), FIRST[0])
        self.assertEqual(self.refused(NoTable, TREE, TO_LEAF, 4, known=(1, 4)).path, TO_LEAF)
        self.assertEqual(entry_at(TREE, TO_LEAF, 4, known=(5,)), (4, 4, "leaf"))
