import unittest

from tests.building import ORDERS, laid, pair, piece, pointer, pointers, table
from tests.drawing import drawn_files
from tests.walking import Walk
from tests.writing import Row
from tornentries.errors import Spoilt
from tornentries.kinds import KNOWN
from tornentries.reading import read
from tornentries.saving import is_part, losses, saved

SAME = (7, 7, 7, 7)


def lost(why):
    return ("lost", why)


def markers(some, known=KNOWN):
    """What is lost in something saved, each as (why, path, number), in the order of reading."""
    if some[0] == "lost":
        return [(some[1], (), None)]
    return chain_markers(some[1], (), known)


def chain_markers(chain, start, known):
    found = []
    for n, rows in enumerate(chain):
        path = start + (n,)
        if rows[:1] == ("lost",):
            found.append((rows[1], path, None))
            continue
        for number, (tag, kind, worths) in enumerate(rows):
            if worths[:1] == ("lost",):
                found.append((worths[1], path, number))
            elif kind == 5 and 5 in known:
                for k, inner in enumerate(worths):
                    found += chain_markers(inner, path + (tag, k), known)
            elif kind == 6 and 6 in known:
                found += [(numbers[1], path, number) for numbers in worths if numbers[:1] == ("lost",)]
    return found


def cut_chain(chain, start, walk, end, known):
    """What must be saved of a chain of a file that was whole and then cut short: all whose cells are there."""
    told = []
    for n, rows in enumerate(chain):
        path = start + (n,)
        first, _, room = walk.tables[path]
        if first + 2 + 3 * room > end:
            return tuple(told) + (lost("beyond"),)
        told.append(tuple([cut_entry(entry, path, walk, end, known) for entry in rows]))
    return tuple(told)


def cut_entry(entry, path, walk, end, known):
    tag, kind, worths = entry
    elsewhere = [(first, many) for (first, many, _), owners in walk.parts.items() if (path, tag) in owners]
    if elsewhere and sum(elsewhere[0]) > end:
        return tag, kind, lost("beyond")
    if kind == 5 and 5 in known:
        return tag, kind, tuple([cut_chain(inner, path + (tag, k), walk, end, known) for k, inner in enumerate(worths)])
    if kind == 6 and 6 in known:
        pieces = []
        for k, numbers in enumerate(worths):
            cells = [first + many for (first, many, _), owners in walk.parts.items() if (path, tag, k) in owners]
            pieces.append(lost("beyond") if cells and cells[0] > end else numbers)
        return tag, kind, tuple(pieces)
    return entry


class SavedTest(unittest.TestCase):
    def saves(self, make, chain, lost_ones, **told):
        for order in ORDERS:
            with self.subTest(order):
                file = make(order)
                kept = tuple(list(file))
                self.assertEqual(saved(file, **told), (order, chain))
                self.assertEqual(losses(file, **told), lost_ones)
                self.assertIs(type(losses(file, **told)), list)
                self.assertIs(type(saved(file, **told)), tuple)
                self.assertEqual(file, kept)
                self.assertEqual(markers(saved(file, **told), told.get("known", KNOWN)), lost_ones)

    def saves_entries(self, rows, parts, told_rows, lost_ones, cells=0, **told):
        """The same of one table at cell 2, of these entries, and parts told for an order."""
        self.saves(lambda order: laid(order, 2, {2: table(order, len(rows), rows), **parts(order)}, cells=cells),
                   (tuple(told_rows),), lost_ones, **told)

    def test_the_head(self):
        for order in ORDERS:
            for file in ((), laid(order, 0, {})[:4], (0,) * 40, laid(order, 0, {})[4:] * 9):
                self.assertEqual(saved(file), ("lost", "head"))
                self.assertEqual(losses(file), [("head", (), None)])
        self.assertEqual(saved((60, 60, 7, 236, 0, 0, 0, 0), known=()), ("lost", "head"))

    def test_whole_files(self):
        for known in (KNOWN, (), (5,), (1, 6)):
            for _, file in drawn_files(60):
                self.assertEqual(saved(file, known=known), read(file, known=known))
                self.assertEqual(losses(file, known=known), [])

    def test_lost_tables_end_their_chain(self):
        def behind(numbers, first=30):
            return lambda order: laid(order, 2, {2: table(order, 0, [], first), **numbers(order)})

        for first in (1, 31, 2 ** 32 - 1):
            self.saves(behind(lambda order: {}, first), ((), lost("beyond")), [("beyond", (1,), None)])
        self.saves(behind(lambda order: {}, 2), ((), lost("ring")), [("ring", (1,), None)])
        self.saves(behind(lambda order: {30: pair(order, 1, 0)}), ((), lost("room")), [("room", (1,), None)])
        self.saves(behind(lambda order: {30: pair(order, 0, 41)}), ((), lost("room")), [("room", (1,), None)])
        self.saves(behind(lambda order: {30: pair(order, 0, 0)}), ((), lost("beyond")), [("beyond", (1,), None)])
        self.saves(behind(lambda order: {30: table(order, 0, [], 40)}), ((), (), lost("beyond")), [("beyond", (2,), None)])
        self.saves(lambda order: laid(order, 1, {}), (lost("beyond"),), [("beyond", (0,), None)])
        self.saves(lambda order: laid(order, 0, {}), (), [])
        self.saves(behind(lambda order: {30: table(order, 0, [])}), ((), ()), [])

    def test_crossed_tables(self):
        # The table at cell 10 has the cells to 17, those from 14 to 16 as room that isn't used.
        self.saves(lambda order: laid(order, 10, {
            10: table(order, 2, [(1, 1, 1, SAME)], 14), 14: pair(order, 0, 0)}), (((1, 1, (7,)),), lost("crossed")),
            [("crossed", (1,), None)])

    def test_long_and_deep(self):
        def long(order):
            parts = {2 + 2 * n: table(order, 0, [], 4 + 2 * n if n < 11 else 0) for n in range(12)}
            return laid(order, 2, parts)

        self.saves(long, ((),) * 10 + (lost("long"),), [("long", (10,), None)])

        def deep(order):
            rows = {2 + 8 * n: table(order, 1, [(1, 5, 1, 10 + 8 * n)]) for n in range(4)}
            return laid(order, 2, {**rows, 34: table(order, 0, [])})

        chain = (lost("deep"),)
        for _ in range(4):
            chain = (((1, 5, (chain,)),),)
        self.saves(deep, chain, [("deep", (0, 1, 0, 0, 1, 0, 0, 1, 0, 0, 1, 0, 0), None)])

    def test_lost_entries(self):
        rest = (9, 1, (7, 7, 7, 7))
        for row, why in (((1, 1, 301, 20), "many"), ((1, 5, 301, 20), "many"), ((1, 6, 2 ** 32 - 1, 20), "many"),
                         ((1, 9, 301, 20), "many"), ((1, 1, 8, 1), "beyond"), ((1, 2, 4, 29), "beyond"),
                         ((1, 5, 2, 29), "beyond"), ((1, 6, 2, 29), "beyond"), ((1, 700, 4, 29), "beyond"),
                         ((1, 1, 8, 4), "crossed"), ((1, 5, 2, 9), "crossed"), ((1, 6, 2, 9), "crossed"),
                         ((1, 4, 1, (0, 0, 0, 0)), "sign"), ((1, 4, 8, 20), "sign")):
            self.saves_entries([row, (9, 1, 4, SAME)], lambda order: {20: (31,) * 8},
                               [row[:2] + (lost(why),), rest], [(why, (0,), 0)], cells=30)

    def test_lost_tags(self):
        self.saves_entries([(5, 1, 1, SAME), (5, 1, 1, SAME), (4, 5, 1, 20), (6, 1, 1, SAME), (1, 1, 301, 1), (2, 1, 0, 0)],
                           lambda order: {20: table(order, 0, [])},
                           [(5, 1, (7,)), (5, 1, lost("tags")), (4, 5, lost("tags")), (6, 1, (7,)), (1, 1, lost("tags")),
                            (2, 1, ())],
                           [("tags", (0,), 1), ("tags", (0,), 2), ("tags", (0,), 4)])

    def test_a_tag_is_held_against_the_lost_one_ahead(self):
        self.saves_entries([(9, 1, 301, 0), (8, 1, 0, 0), (9, 1, 0, 0)], lambda order: {},
                           [(9, 1, lost("many")), (8, 1, lost("tags")), (9, 1, ())],
                           [("many", (0,), 0), ("tags", (0,), 1)])
        self.saves_entries([(5, 1, 0, 0), (3, 1, 0, 0), (4, 1, 0, 0)], lambda order: {},
                           [(5, 1, ()), (3, 1, lost("tags")), (4, 1, ())], [("tags", (0,), 1)])

    def test_lost_pieces(self):
        self.saves_entries(
            [(1, 6, 6, 14), (2, 6, 1, 1), (3, 6, 1, 26)],
            lambda order: {14: pointers(order, 20, 1, 4, 24, 0, 20), 20: piece(order, (1, 2)), 24: pointer(order, 301),
                           26: pointer(order, 9)},
            [(1, 6, ((1, 2), lost("beyond"), lost("crossed"), lost("many"), (), (1, 2))), (2, 6, (lost("beyond"),)),
             (3, 6, (lost("beyond"),))],
            [("beyond", (0,), 0), ("crossed", (0,), 0), ("many", (0,), 0), ("beyond", (0,), 1), ("beyond", (0,), 2)])

    def saves_later(self, row, parts, told_row, lost_one, worth=(7,) * 8, first=20):
        """A lost entry, and behind it one with worths in cells that the lost one would have had."""
        self.saves_entries([row, (9, 9, 8, first)], parts, [told_row, (9, 9, worth)], [lost_one], cells=40)

    def test_a_lost_entry_has_no_cells(self):
        for first in (19, 20, 21):
            self.saves_later((1, 4, 8, 20), lambda order: {20: SAME + SAME, first: SAME + SAME}, (1, 4, lost("sign")),
                             ("sign", (0,), 0), first=first)
        # These cross the table, which has the cells to 9, and would cross the worths behind them.
        self.saves_later((1, 9, 32, 5), lambda order: {10: SAME + SAME}, (1, 9, lost("crossed")), ("crossed", (0,), 0), first=10)
        for kind in (5, 6):
            self.saves_later((1, kind, 3, 9), lambda order: {10: SAME + SAME}, (1, kind, lost("crossed")),
                             ("crossed", (0,), 0), first=10)

    def test_a_lost_piece_has_no_cells(self):
        self.saves_entries([(1, 9, 8, 21), (2, 6, 1, 20), (3, 9, 8, 23)],
                           lambda order: {20: pointer(order, 16), 21: SAME * 4},
                           [(1, 9, (7,) * 8), (2, 6, (lost("crossed"),)), (3, 9, (7,) * 8)], [("crossed", (0,), 1)])

    def test_a_lost_table_has_no_cells(self):
        for order in ORDERS:
            # The eleventh table of an inner chain is lost; the worths behind it stand in its cells.
            parts = {20 + 2 * n: table(order, 0, [], 22 + 2 * n if n < 10 else 0) for n in range(11)}
            file = laid(order, 2, {2: table(order, 2, [(1, 5, 1, 20), (2, 9, 8, 40)]), **parts})
            self.assertEqual(saved(file), (order, (((1, 5, (((),) * 10 + (lost("long"),),)), (2, 9, file[160:168])),)))
            self.assertEqual(losses(file), [("long", (0, 1, 0, 10), None)])
            # The table at cell 20 would cross the one at cell 22, so another one may.
            file = laid(order, 2, {
                2: table(order, 3, [(1, 5, 1, 22), (2, 5, 1, 20), (3, 5, 1, 24)]), 20: pair(order, 0, 1),
                22: table(order, 0, []), 24: table(order, 0, [])})
            self.assertEqual(saved(file), (order, (((1, 5, (((),),)), (2, 5, ((lost("crossed"),),)), (3, 5, (((),),))),)))
            self.assertEqual(losses(file), [("crossed", (0, 2, 0, 0), None)])

    def test_several_losses_in_the_order_in_which_they_are_met(self):
        def make(order):
            return laid(order, 2, {
                2: table(order, 4, [(1, 5, 3, 20), (2, 4, 1, (0, 0, 0, 0)), (3, 6, 2, 24), (3, 1, 0, 0)], 70),
                20: pointers(order, 30, 1, 40), 24: pointers(order, 1, 999),
                30: table(order, 2, [(5, 1, 301, 0), (6, 5, 1, 50)], 60), 40: table(order, 0, [], 40),
                50: table(order, 1, [(7, 9, 9, 1)], 2), 60: pair(order, 1, 0), 70: table(order, 1, [(1, 1, 5, 70)], 71)})

        inner = (((7, 9, lost("beyond")),), lost("ring"))
        chains = ((((5, 1, lost("many")), (6, 5, (inner,))), lost("room")), (lost("beyond"),), ((), lost("ring")))
        self.saves(make, (
            ((1, 5, chains), (2, 4, lost("sign")), (3, 6, (lost("beyond"), lost("beyond"))), (3, 1, lost("tags"))),
            ((1, 1, lost("crossed")),), lost("beyond")), [
            ("many", (0, 1, 0, 0), 0), ("beyond", (0, 1, 0, 0, 6, 0, 0), 0), ("ring", (0, 1, 0, 0, 6, 0, 1), None),
            ("room", (0, 1, 0, 1), None), ("beyond", (0, 1, 1, 0), None), ("ring", (0, 1, 2, 1), None),
            ("sign", (0,), 1), ("beyond", (0,), 2), ("beyond", (0,), 2), ("tags", (0,), 3), ("crossed", (1,), 0),
            ("beyond", (2,), None)])

    def test_fewer_known_kinds(self):
        def make(order):
            return laid(order, 2, {2: table(order, 3, [(1, 4, 1, SAME), (2, 5, 1, (1, 1, 1, 1)), (3, 6, 1, (1, 1, 1, 1))])})

        whole = ((1, 4, SAME[:1]), (2, 5, (1, 1, 1, 1)), (3, 6, (1, 1, 1, 1)))
        self.saves(make, (whole,), [], known=())
        self.saves(make, (((1, 4, lost("sign")),) + whole[1:],), [("sign", (0,), 0)], known=(4,))
        self.saves(make, ((whole[0], (2, 5, ((lost("beyond"),),)), whole[2]),), [("beyond", (0, 2, 0, 0), None)], known=(5,))
        self.saves(make, (whole[:2] + ((3, 6, (lost("beyond"),)),),), [("beyond", (0,), 2)], known=(1, 6))

    def test_cut_short_behind_each_cell(self):
        for tree, file in drawn_files(50, least=20):
            for known in (KNOWN, (1, 4, 6), (5,)):
                whole = read(file, known=known)
                walk = Walk(file, known)
                for end in range(len(file) // 4 + 1):
                    cut = file[:4 * end]
                    told = saved(cut, known=known)
                    if end < 2:
                        self.assertEqual(told, ("lost", "head"))
                    else:
                        self.assertEqual(told, (tree[0], cut_chain(whole[1], (), walk, end, known)))
                    self.assertEqual(losses(cut, known=known), markers(told, known))
                    self.assertIs(is_part(told, whole, known=known), True)

    def test_spoilt_files(self):
        whys = {}
        for at, (_, file) in enumerate(drawn_files(60, least=20)):
            row = Row(at)
            for _ in range(30):
                numbers = list(file)
                for _ in range(1 + row.below(4)):
                    numbers[row.below(len(numbers))] = (row.below(256), row.below(40), 255)[row.below(3)]
                for known in (KNOWN, (1, 5)):
                    whys.update({why: True for why in self.check_spoilt(tuple(numbers), known)})
        self.assertTrue(set(whys) >= {"head", "beyond", "room", "crossed", "tags", "many", "sign", "ring"}, whys)

    def check_spoilt(self, file, known):
        told = saved(file, known=known)
        lost_ones = losses(file, known=known)
        self.assertEqual(markers(told, known), lost_ones)
        try:
            self.assertEqual(read(file, known=known), told)
            self.assertEqual(lost_ones, [])
        except Spoilt as error:
            self.assertEqual(lost_ones[0], (error.why, error.path, error.number))
        return [why for why, _, _ in lost_ones]

    def test_a_told_list_is_the_askers(self):
        file = laid("small", 1, {})
        losses(file).clear()
        self.assertEqual(losses(file), [("beyond", (0,), None)])


class PartTest(unittest.TestCase):
    tree = ("small", (
        ((1, 1, (1, 2)), (2, 4, "abc"), (3, 5, (((), ((8, 6, ((1,), (2, 3))),)), ())), (4, 9, (1, 2))),
        (), ((5, 6, ((), (9,))),)))

    def with_chain(self, *tables):
        return ("small", tables)

    def with_entry(self, at, entry):
        first = self.tree[1][0]
        return self.with_chain(first[:at] + (entry,) + first[at + 1:], *self.tree[1][1:])

    def part(self, some, told, **more):
        self.assertIs(is_part(some, self.tree, **more), told, some)

    def test_the_tree_itself(self):
        self.part(self.tree, True)
        for tree, _ in drawn_files(20):
            self.assertIs(is_part(tree, tree), True)
            self.assertIs(is_part(tree, (tree[0], tree[1] + ((),))), False)

    def test_the_head_lost(self):
        self.part(("lost", "head"), True)
        self.assertIs(is_part(("lost", "head"), ("great", ())), True)

    def test_the_order(self):
        self.part(("great",) + self.tree[1:], False)
        self.part(("great", (lost("beyond"),)), False)
        self.part(("small", (lost("beyond"),)), True)
        self.assertIs(is_part(("great", ()), ("small", ())), False)
        self.assertIs(is_part(("great", ()), ("great", ())), True)

    def test_one_thing_otherwise(self):
        first, second, third = self.tree[1]
        for at, entry in ((0, (1, 1, (1, 3))), (0, (1, 1, (1,))), (0, (1, 1, (1, 2, 3))), (0, (1, 2, (1, 2))),
                          (0, (0, 1, (1, 2))), (1, (2, 4, "abd")), (1, (2, 4, "ab")), (1, (2, 1, (97, 98, 99))),
                          (2, (3, 5, first[2][2][:1])), (2, (3, 5, first[2][2] + ((),))), (2, (3, 5, first[2][2][::-1])),
                          (2, (3, 5, (((),), ()))), (2, (3, 5, (((), ((8, 6, ((1,), (2, 4))),)), ()))),
                          (2, (3, 5, (((), ((8, 6, ((1,),)),)), ()))), (3, (4, 9, (1, 3))), (3, (4, 9, (1,))),
                          (3, (4, 0, (1, 2)))):
            self.part(self.with_entry(at, entry), False)
        self.part(self.with_chain(first, second), False)
        self.part(self.with_chain(first, third, second), False)
        self.part(self.with_chain(first[:3], second, third), False)
        self.part(self.with_chain(first + ((5, 1, ()),), second, third), False)
        self.part(self.with_chain(first, second, third, ()), False)
        self.part(self.with_chain(), False)

    def test_a_lost_table(self):
        first, second, third = self.tree[1]
        for why in ("beyond", "ring", "room", "crossed", "long", "deep"):
            self.part(self.with_chain(lost(why)), True)
            self.part(self.with_chain(first, lost(why)), True)
            self.part(self.with_chain(first, second, lost(why)), True)
            self.part(self.with_chain(first, second, third, lost(why)), False)
            self.part(self.with_chain(second, lost(why)), False)
            self.part(self.with_chain(first[:2], lost(why)), False)
        self.assertIs(is_part(("small", (lost("beyond"),)), ("small", ())), False)
        self.assertIs(is_part(("small", ((),) * 10 + (lost("long"),)), ("small", ((),) * 10)), False)
        self.part(self.with_entry(2, (3, 5, (((), lost("beyond")), ()))), True)
        self.part(self.with_entry(2, (3, 5, ((lost("beyond"),), ()))), True)
        self.part(self.with_entry(2, (3, 5, (((), ((8, 6, ((1,), (2, 3))),), lost("beyond")), ()))), False)
        self.part(self.with_entry(2, (3, 5, (((), ((8, 6, ((1,), (2, 3))),)), (lost("beyond"),)))), False)
        self.part(self.with_entry(2, (3, 5, (((), lost("beyond")),))), False)

    def test_a_lost_entry(self):
        for at, (tag, kind, _) in enumerate(self.tree[1][0]):
            self.part(self.with_entry(at, (tag, kind, lost("crossed"))), True)
            self.part(self.with_entry(at, (tag + 1, kind, lost("crossed"))), False)
            self.part(self.with_entry(at, (tag, kind + 1, lost("crossed"))), False)
        first = self.tree[1][0]
        self.part(self.with_chain(first + ((5, 1, lost("many")),), *self.tree[1][1:]), False)
        self.part(self.with_chain(first[:3], *self.tree[1][1:]), False)

    def test_lost_pieces(self):
        first, second, _ = self.tree[1]
        for pieces, told in (((lost("many"), (9,)), True), (((), lost("many")), True), ((lost("many"), lost("beyond")), True),
                             ((lost("many"),), False), ((lost("many"), (8,)), False), (((), (9,), lost("many")), False),
                             ((lost("many"), (9,), lost("many")), False), (lost("beyond"), True)):
            self.part(self.with_chain(first, second, ((5, 6, pieces),)), told)

    def test_fewer_known_kinds(self):
        some = ("small", (((1, 5, (0, 0, 0, 9)), (2, 6, lost("beyond"))),))
        tree = ("small", (((1, 5, (0, 0, 0, 9)), (2, 6, (0, 0, 0, 8, 0, 0, 0, 8))),))
        self.assertIs(is_part(some, tree, known=()), True)
        self.assertIs(is_part(some, tree, known=(1, 2, 3, 4)), True)
        other = ("small", (((1, 5, (0, 0, 0, 8)),) + some[1][0][1:],))
        self.assertIs(is_part(other, tree, known=()), False)

    def test_parts_of_drawn_trees(self):
        found = {True: 0, False: 0}
        files = drawn_files(30, least=20)
        for (tree, file), (other, _) in zip(files, files[1:] + files[:1]):
            for end in range(0, len(file) // 4, 3):
                some = saved(file[:4 * end])
                told = is_part(some, other)
                self.assertIs(told, stands_in(some, other))
                found[told] += 1
        self.assertGreater(min(found.values()), 20)


def stands_in(some, tree):
    """Whether all that is saved stands in the tree, told by the wording of the promise alone."""
    return some[0] == "lost" or (some[0] == tree[0] and chain_stands_in(some[1], tree[1]))


def chain_stands_in(some, chain):
    if some and some[-1][:1] == ("lost",):
        some = some[:-1]
        chain = chain[:len(some)] if len(chain) > len(some) else None
    if chain is None or len(chain) != len(some):
        return False
    for rows, others in zip(some, chain):
        if [row[:2] for row in rows] != [row[:2] for row in others]:
            return False
        for (_, kind, worths), (_, _, mates) in zip(rows, others):
            if worths[:1] == ("lost",):
                continue
            if kind not in (5, 6):
                if worths != mates:
                    return False
            elif len(worths) != len(mates):
                return False
            elif kind == 5 and not all([chain_stands_in(*both) for both in zip(worths, mates)]):
                return False
            elif kind == 6 and not all([one == mate or one[:1] == ("lost",) for one, mate in zip(worths, mates)]):
                return False
    return True
