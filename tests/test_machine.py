import unittest

from tests.building import ORDERS, filled, laid, pair, piece, pointer, pointers, table
from tests.deedmaking import paths_in, table_of
from tests.drawing import drawn_files
from tests.going import Going
from tests.writing import Row
from tornentries.errors import NoTable, NoTag
from tornentries.machine import gone
from tornentries.reading import read
from tornentries.trees import entry_at, table_at
from tornentries.ways import way_to

ROOT, NEXT, WORTH = ("root",), ("next",), ("worth",)
KNOWN = (1, 2, 3, 4, 5, 6)
FEWER = ((), (5,), (1, 4), (5, 6), (1, 2, 3, 4, 6), (6,))


def find(tag):
    return ("find", tag)


def into(k):
    return ("into", k)


def sample(order):
    """Two tables; in the first one entries of all kinds, two of them raw; gaps between the parts, and shared ones."""
    long = filled(b"".join([n.to_bytes(2, "little" if order == "small" else "big") for n in (258, 3, 65535)]))
    return laid(order, 3, {
        3: table(order, 12, [
            (0, 1, 3, (9, 8, 7, 171)), (1, 1, 5, 50), (2, 2, 3, 53), (3, 3, 1, pointer(order, 4294967295)), (4, 4, 0, 77),
            (5, 4, 5, 56), (6, 5, 2, 58), (7, 5, 0, 999), (8, 6, 3, 60), (9, 6, 1, 64), (10, 7, 2, (1, 2, 3, 4)),
            (65535, 9, 5, 50)], 70),
        50: filled((65, 66, 67, 68, 69)), 53: long, 56: filled(b"a-Z.9"), 58: pointers(order, 0, 80),
        60: pointers(order, 64, 0, 66), 64: piece(order, (1, 2, 3)), 66: piece(order, ()),
        70: table(order, 1, [(5, 5, 1, 80 + 5)]),
        80: table(order, 0, [], 90), 85: table(order, 0, []), 90: table(order, 2, [(5, 1, 1, (6, 171, 171, 171))]),
    }, cells=100)


class FoundTest(unittest.TestCase):
    def test_entries_of_each_kind(self):
        told = {0: (1, (9, 8, 7)), 1: (1, (65, 66, 67, 68, 69)), 2: (2, (258, 3, 65535)), 3: (3, (4294967295,)), 4: (4, ""),
                5: (4, "a-Z.9"), 6: (5, 2), 7: (5, 0), 8: (6, ((1, 2, 3), (), ())), 9: (6, ((1, 2, 3),)),
                10: (7, (1, 2, 3, 4)), 65535: (9, (65, 66, 67, 68, 69))}
        for order in ORDERS:
            for tag, (kind, worths) in told.items():
                self.assertEqual(gone(sample(order), way_to((0,), tag)), ("found", kind, worths), tag)

    def test_for_fewer_known_kinds(self):
        for order in ORDERS:
            file = sample(order)
            self.assertEqual(gone(file, way_to((0,), 3), known=()), ("found", 3, (255,) * 4))
            self.assertEqual(gone(file, way_to((0,), 5), known=(1,)), ("found", 4, tuple(b"a-Z.9")))
            self.assertEqual(gone(file, way_to((0,), 6), known=(4, 6)), ("found", 5, pointers(order, 0, 80)))
            self.assertEqual(gone(file, way_to((0,), 7), known=()), ("found", 5, ()))
            self.assertEqual(gone(file, way_to((0,), 9), known=(5,)), ("found", 6, pointer(order, 64)))
            self.assertEqual(gone(file, way_to((0,), 6), known=(5,)), ("found", 5, 2))
            self.assertEqual(gone(file, way_to((0, 6, 1, 1), 5), known=(5,)), ("found", 1, (6, )))
            self.assertEqual(gone(file, way_to((0, 6, 1, 1), 5), known=(1,)), ("lost", 2, "kind"))

    def test_ways_without_worths_at_the_end(self):
        for order in ORDERS:
            file = sample(order)
            for rows, number in (([ROOT], 3), ([ROOT, NEXT], 70), ([ROOT, NEXT, NEXT], 0), ([ROOT, find(0)], 0),
                                 ([ROOT, find(9)], 9), ([ROOT, find(65535)], 11), ([ROOT, find(6), into(0)], 0),
                                 ([ROOT, find(6), into(1)], 80), ([ROOT, find(6), into(1), NEXT], 90),
                                 ([ROOT, find(6), into(1), NEXT, find(5)], 0), ([ROOT, find(6), into(1), NEXT, NEXT], 0),
                                 ([ROOT, NEXT, find(5), into(0)], 85), ([ROOT, NEXT, find(5)], 0)):
                self.assertEqual(gone(file, rows), ("at", number), rows)
            self.assertEqual(gone(laid(order, 0, {}), [ROOT]), ("at", 0))
            self.assertEqual(gone(laid(order, 4294967295, {}), [ROOT]), ("at", 4294967295))

    def test_a_chain_and_chains_without_bounds(self):
        # Eleven tables, or a ring of them, are no matter to who goes just to the next one.
        for order in ORDERS:
            ring = laid(order, 2, {2: table(order, 0, [], 2)})
            self.assertEqual(gone(ring, [ROOT] + [NEXT] * 500), ("at", 2))
            parts = {2 + 2 * n: table(order, 0, [], 4 + 2 * n) for n in range(20)}
            self.assertEqual(gone(laid(order, 2, parts), [ROOT] + [NEXT] * 20), ("at", 42))
            deep = laid(order, 2, {2: table(order, 1, [(1, 5, 1, 2)])})
            self.assertEqual(gone(deep, [ROOT] + [find(1), into(0)] * 60), ("at", 2))

    def test_as_the_tree_has_it(self):
        entries = 0
        for at, (_, file) in enumerate(drawn_files(120)):
            known = ((KNOWN,) + FEWER)[at % 7]
            tree = read(file, known=known)
            for path in paths_in(tree[1], (), known):
                for tag, kind, worths in table_of(tree, path):
                    told = len(worths) if kind == 5 and 5 in known else worths
                    self.assertEqual(gone(file, way_to(path, tag), known=known), ("found", kind, told))
                    entries += 1
        self.assertTrue(entries > 300, entries)

    def test_lost_where_the_tree_has_nothing(self):
        for at, (_, file) in enumerate(drawn_files(40, start=100)):
            row = Row(at)
            known = ((KNOWN,) + FEWER)[at % 7]
            tree = read(file, known=known)
            paths = paths_in(tree[1], (), known) or [(0,)]
            for _ in range(25):
                path = list(paths[row.below(len(paths))])
                path[row.below(len(path))] += row.below(2)
                if row.below(4) == 0 and len(path) < 10:
                    path += [row.below(9), row.below(3), row.below(3)]
                self.check(file, tree, tuple(path), row.below(9), known)

    def check(self, file, tree, path, tag, known):
        told = gone(file, way_to(path, tag), known=known)
        try:
            _, kind, worths = entry_at(tree, path, tag, known=known)
            self.assertEqual(told, ("found", kind, len(worths) if kind == 5 and 5 in known else worths))
        except NoTag:
            self.assertEqual(told, ("lost", len(way_to(path, tag)) - 2, "tag"))
            self.assertEqual(gone(file, way_to(path, tag)[:-2], known=known)[0], "at")
        except NoTable:
            self.assertEqual(told[0], "lost")
            with self.assertRaises(NoTable):
                table_at(tree, path, known=known)


class LostTest(unittest.TestCase):
    def lost(self, file, rows, number, why, **more):
        self.assertEqual(gone(file, rows, **more), ("lost", number, why))
        self.assertEqual(Going(file, **more).told(rows), ("lost", number, why))

    def found(self, file, rows, told, **more):
        self.assertEqual(gone(file, rows, **more), told)
        self.assertEqual(Going(file, **more).told(rows), told)

    def test_head(self):
        rows = [ROOT, find(1), WORTH]
        for order in ORDERS:
            whole = laid(order, 2, {2: table(order, 1, [(1, 1, 1, (5, 0, 0, 0))])})
            self.found(whole, rows, ("found", 1, (5,)))
            for file in ((), whole[:4], (60, 62) + whole[2:], whole[1::-1] + whole[3:1:-1] + whole[4:], whole[4:], (0,) * 20):
                self.lost(file, rows, 0, "head")
                self.lost(file, [ROOT], 0, "head")
            self.lost(whole[:8], rows, 1, "beyond")
            self.found(whole[:8], [ROOT], ("at", 2))

    def test_a_tables_first_cell(self):
        for order in ORDERS:
            for number, why in ((0, "end"), (1, "beyond"), (9, "beyond"), (4294967295, "beyond")):
                file = laid(order, number, {2: table(order, 1, [(1, 1, 1, (5, 0, 0, 0))])}, cells=9)
                self.lost(file, [ROOT, NEXT], 1, why)
                self.lost(file, [ROOT, find(1), WORTH], 1, why)
            for many, room, why in ((2, 1, "room"), (1, 0, "room"), (41, 41, "room"), (0, 41, "room"), (65535, 65535, "room"),
                                    (0, 40, "beyond"), (40, 40, "beyond")):
                file = laid(order, 2, {2: pair(order, many, room)})
                self.lost(file, [ROOT, NEXT], 1, why)
                if why == "room" or many:
                    self.lost(file, [ROOT, find(0)], 1, why)
                else:
                    self.lost(file, [ROOT, find(0)], 1, "tag")

    def test_the_next_pointers_cell(self):
        for order in ORDERS:
            file = laid(order, 2, {2: table(order, 3, [(1, 1, 1, (5, 0, 0, 0))], 7)})
            self.found(file, [ROOT, NEXT], ("at", 7))
            for cells in range(3, 12):
                self.lost(file[:4 * cells], [ROOT, NEXT, NEXT], 1, "beyond")
            self.lost(file[:8], [ROOT, NEXT], 1, "beyond")
            # That cell isn't asked for by who finds an entry.
            self.found(file[:24], [ROOT, find(1), WORTH], ("found", 1, (5,)))

    def test_entry_by_entry(self):
        for order in ORDERS:
            file = laid(order, 2, {2: table(order, 4, [(5, 1, 1, (1, 0, 0, 0)), (9, 1, 1, (2, 0, 0, 0)), (7, 1, 1, (3, 0, 0, 0)),
                                                       (20, 1, 1, (4, 0, 0, 0))])})
            for tag, at in ((5, 0), (9, 1), (20, 3)):
                self.found(file, [ROOT, find(tag)], ("at", at))
                self.found(file, [ROOT, find(tag), WORTH], ("found", 1, (at + 1,)))
            # At a greater tag it stops, whatever stands behind.
            for tag in (0, 4, 6, 7, 8, 10, 19, 21, 65535):
                self.lost(file, [ROOT, find(tag), WORTH], 1, "tag")
            for cells, there in ((3, ()), (4, (5,)), (6, (5,)), (7, (5, 9)), (9, (5, 9)), (10, (5, 9, 7)), (12, (5, 9, 7))):
                for tag in (0, 4, 6, 8, 10, 30):
                    why = "tag" if any([other > tag for other in there]) else "beyond"
                    self.lost(file[:4 * cells], [ROOT, find(tag)], 1, why)
            self.lost(file[:52], [ROOT, find(30)], 1, "tag")
            # Unused room isn't looked through.
            unused = laid(order, 2, {2: table(order, 3, [(5, 1, 1, (1, 0, 0, 0))])[:16] + pair(order, 8, 1) * 7})
            self.lost(unused, [ROOT, find(8)], 1, "tag")

    def test_into(self):
        for order in ORDERS:
            whole = laid(order, 2, {2: table(order, 2, [(1, 5, 2, 20), (2, 5, 1, 30)]), 20: pointers(order, 0, 30),
                                    30: table(order, 0, [])})
            for k, at in ((0, 0), (1, 30)):
                self.found(whole, [ROOT, find(1), into(k)], ("at", at))
            for k in (2, 3, 299, 300, 10 ** 30):
                self.lost(whole, [ROOT, find(1), into(k)], 2, "end")
            self.found(whole, [ROOT, find(2), into(0)], ("at", 30))
            self.lost(whole, [ROOT, find(2), into(1)], 2, "end")
            # The count, the place, the pointer's cell.
            for cells in (4, 5):
                self.lost(whole[:4 * cells], [ROOT, find(1), into(0)], 2, "beyond")
                self.lost(whole[:4 * cells], [ROOT, find(1), into(9)], 2, "beyond")
            for cells in (6, 20):
                self.lost(whole[:4 * cells], [ROOT, find(1), into(0)], 2, "beyond")
                self.lost(whole[:4 * cells], [ROOT, find(1), into(2)], 2, "end")
            self.found(whole[:84], [ROOT, find(1), into(0)], ("at", 0))
            self.lost(whole[:84], [ROOT, find(1), into(1)], 2, "beyond")

    def test_into_of_odd_entries(self):
        for order in ORDERS:
            for row, k, why in (((1, 5, 301, 20), 0, "many"), ((1, 5, 301, 20), 400, "many"), ((1, 5, 4294967295, 0), 0, "many"),
                                ((1, 5, 0, 20), 0, "end"), ((1, 6, 301, 20), 0, "kind"), ((1, 7, 2, 20), 5, "kind"),
                                ((1, 5, 2, 0), 0, "beyond"), ((1, 5, 2, 0), 1, "beyond"), ((1, 5, 3, 1), 0, "beyond"),
                                ((1, 5, 2, 4294967295), 0, "beyond"), ((1, 5, 2, 5000), 0, "beyond")):
                file = laid(order, 2, {2: table(order, 1, [row])}, cells=330)
                self.lost(file, [ROOT, find(1), into(k)], 2, why)
            # Of a list just the pointer's own cell is looked at, wherever the list begins and ends.
            self.found(laid(order, 2, {2: table(order, 1, [(1, 5, 300, 0)])}, cells=20), [ROOT, find(1), into(2)],
                       ("at", int.from_bytes(bytes(pair(order, 1, 1)), "little" if order == "small" else "big")))
            self.found(laid(order, 2, {2: table(order, 1, [(1, 5, 300, 1)])}, cells=7), [ROOT, find(1), into(5)], ("at", 0))
            # The count and the place are told ahead of the kind; where 5 isn't known, no entry is of it.
            file = laid(order, 2, {2: table(order, 1, [(1, 1, 1, (0, 0, 0, 0))])})
            self.lost(file, [ROOT, find(1), into(0)], 2, "kind")
            self.lost(file[:20], [ROOT, find(1), into(0)], 2, "beyond")
            file = laid(order, 2, {2: table(order, 1, [(1, 5, 1, 0)])})
            self.found(file, [ROOT, find(1), into(0)], ("at", 0))
            self.lost(file, [ROOT, find(1), into(0)], 2, "kind", known=(1, 2, 3, 4, 6))

    def test_worth(self):
        for order in ORDERS:
            for kind in (1, 4, 5, 6, 7):
                file = laid(order, 2, {2: table(order, 1, [(1, kind, 301, 2)])}, cells=400)
                self.lost(file, [ROOT, find(1), WORTH], 2, "many")
                for cells in (4, 5):
                    self.lost(file[:4 * cells], [ROOT, find(1), WORTH], 2, "beyond")
                self.lost(file[:24], [ROOT, find(1), WORTH], 2, "many")
            for kind, cells in ((1, 2), (2, 3), (3, 5), (4, 2), (6, 5), (7, 3), (8, 5), (9, 2)):
                parts = {2: table(order, 1, [(1, kind, 5, 20)]), 20: (0,) * 20}
                rows = [ROOT, find(1), WORTH]
                text = parts[20] if kind != 4 else (65,) * 20
                file = laid(order, 2, {**parts, 20: text})
                self.assertEqual(gone(file[:4 * (20 + cells)], rows)[0], "found")
                self.lost(file[:4 * (19 + cells)], rows, 2, "beyond")
                for place in (0, 1, 21 + 5 - cells, 4294967295):
                    other = laid(order, 2, {**parts, 2: table(order, 1, [(1, kind, 5, place)]), 20: text}, cells=25)
                    self.assertEqual(gone(other, rows)[2], "beyond")
            # Of kind 5 no more is looked at than how many there are.
            file = laid(order, 2, {2: table(order, 1, [(1, 5, 300, 4000)])})
            self.found(file[:24], [ROOT, find(1), WORTH], ("found", 5, 300))
            self.lost(file, [ROOT, find(1), WORTH], 2, "beyond", known=())

    def test_sign(self):
        for order in ORDERS:
            rows = [ROOT, find(1), WORTH]
            for sign in (0, 31, 33, 44, 47, 58, 64, 91, 96, 123, 255):
                file = laid(order, 2, {2: table(order, 1, [(1, 4, 3, (65, 66, sign, 0))])})
                self.lost(file, rows, 2, "sign")
                self.found(file, rows, ("found", 4, (65, 66, sign)), known=(5,))
                file = laid(order, 2, {2: table(order, 1, [(1, 4, 6, 10)]), 10: (65, 66, 67, 68, 69, sign, 0, 0)})
                self.lost(file, rows, 2, "sign")
                self.lost(file[:44], rows, 2, "beyond")
            self.found(laid(order, 2, {2: table(order, 1, [(1, 4, 2, (65, 66, 0, 0))])}), rows, ("found", 4, "AB"))

    def test_piece_by_piece(self):
        for order in ORDERS:
            rows = [ROOT, find(1), WORTH]
            parts = {2: table(order, 1, [(1, 6, 3, 20)]), 30: piece(order, (7,) * 5), 40: pointer(order, 301)}

            def told(*firsts, cells=45):
                file = laid(order, 2, {**parts, 20: pointers(order, *firsts)}, cells=cells)[:4 * cells]
                self.assertEqual(gone(file, rows), Going(file).told(rows))
                return gone(file, rows)

            five = (7,) * 5
            self.assertEqual(told(30, 0, 30), ("found", 6, (five, (), five)))
            self.assertEqual(told(30, 1, 40), ("lost", 2, "beyond"))
            self.assertEqual(told(30, 40, 1), ("lost", 2, "many"))
            self.assertEqual(told(0, 45, 40), ("lost", 2, "beyond"))
            self.assertEqual(told(0, 0, 40), ("lost", 2, "many"))
            self.assertEqual(told(0, 0, 40, cells=41), ("lost", 2, "many"))
            self.assertEqual(told(0, 0, 30, cells=33), ("found", 6, ((), (), five)))
            self.assertEqual(told(0, 0, 30, cells=32), ("lost", 2, "beyond"))
            self.assertEqual(told(0, 0, 0, cells=23), ("found", 6, ((), (), ())))
            self.assertEqual(told(0, 0, 0, cells=22), ("lost", 2, "beyond"))
            one = laid(order, 2, {2: table(order, 1, [(1, 6, 1, 30)]), 30: piece(order, (7,) * 5)})
            self.found(one, rows, ("found", 6, ((7,) * 5,)))
            self.lost(one[:128], rows, 2, "beyond")


class ManyWaysTest(unittest.TestCase):
    """Against a machine told in the plainest way, in files that are whole, cut short and spoilt."""

    def setUp(self):
        self.met = {}

    def rows(self, row, tree, known):
        paths = paths_in(tree[1], (), known) or [(0,)]
        path = paths[row.below(len(paths))]
        table = table_of(tree, path) if tree[1] else ()
        tags = [entry[0] for entry in table] + [row.below(9)]
        rows = way_to(path, tags[row.below(len(tags))])
        if row.below(3) == 0:
            rows = rows[:-1] + [into(row.below(3))] + ([find(row.below(9)), WORTH] if row.below(2) else [])
        if row.below(4) == 0:
            rows = rows[:1 + row.below(len(rows))]
        return rows

    def check(self, file, rows, known, row):
        going = Going(file, known)
        told = going.told(rows)
        self.assertEqual(gone(file, rows, known=known), told)
        self.met[told[0] if told[0] != "lost" else rows[told[1]][0] + " " + told[2]] = True
        cells = len(file) // 4
        unseen = [cell for cell in range(cells) if cell not in going.seen]
        for _ in range(3):
            spoilt = list(file)
            for _ in range(1 + row.below(6)):
                if unseen:
                    cell = unseen[row.below(len(unseen))]
                    spoilt[4 * cell:4 * cell + 4] = [row.below(256) for _ in range(4)]
            self.assertEqual(gone(tuple(spoilt), rows, known=known), told)

    def test_many(self):
        for at, (_, file) in enumerate(drawn_files(110, least=12)):
            known = ((KNOWN, KNOWN) + FEWER)[at % 8]
            tree = read(file, known=known)
            row = Row(500 + at)
            for _ in range(8):
                rows = self.rows(row, tree, known)
                self.check(file, rows, known, row)
                self.check(file[:4 * row.below(len(file) // 4 + 1)], rows, known, row)
                going = Going(file, known)
                going.told(rows)
                seen = sorted(going.seen)
                for _ in range(6):
                    numbers = list(file)
                    spot = 4 * seen[row.below(len(seen))] + row.below(4)
                    numbers[spot] = (row.below(256), row.below(12), 255, 0, 1)[row.below(5)]
                    self.check(tuple(numbers), rows, known, row)
        for word in ("found", "at", "root head", "next end", "next beyond", "next room", "find end", "find beyond", "find room",
                     "find tag", "into beyond", "into kind", "into many", "into end", "worth beyond", "worth many",
                     "worth sign"):
            self.assertIn(word, self.met)

    def test_nothing_is_changed(self):
        file, rows = sample("small"), way_to((0, 6, 1, 1), 5)
        gone(file, rows)
        self.assertEqual((file, rows), (sample("small"), way_to((0, 6, 1, 1), 5)))
