import inspect
import unittest

from tests.deedmaking import drawn_deed, paths_in, table_of
from tests.drawing import Drawer, drawn_tree, wanted
from tests.naive import naively_done
from tests.walking import Walk
from tests.writing import Row
from tornentries.alike import first_unlike
from tornentries.cuts import lets_strokes, torn
from tornentries.desk import Desk
from tornentries.errors import TornError
from tornentries.figures import read_file, show_file
from tornentries.least import is_least, least, needed
from tornentries.machine import gone
from tornentries.making import made, turned
from tornentries.maps import cells_in, lets_map, map_of
from tornentries.reader import read_deed, read_tree
from tornentries.reading import head_of, read
from tornentries.saving import is_part, losses, saved
from tornentries.shelf import Shelf
from tornentries.strokes import strokes_of
from tornentries.texts import show_deed, show_tree
from tornentries.trees import entry_at, is_tree
from tornentries.ways import way_to


def some_trees(many, most=150, raw=False):
    found = []
    start = 0
    while len(found) < many:
        start += 1
        tree = drawn_tree(Row(31 * start), raw)
        if 20 <= 2 + wanted(tree[1], 2) <= most:
            found.append(tree)
    return found


class WholeTest(unittest.TestCase):
    """What the program promises, all of it one behind the other, in both orders."""

    def setUp(self):
        self.met = {}

    def test_trees_written_made_changed_torn_read_saved_packed(self):
        for at, (_, chain) in enumerate(some_trees(14)):
            for order in ("small", "great"):
                self.go_through((order, chain), Row(at))
        for word in ("put", "change", "out", "share", "piece", "chain", "cut", "torn", "refused", "lost", "found"):
            self.assertIn(word, self.met)

    def go_through(self, tree, row):
        self.assertEqual(read_tree(show_tree(tree)), tree)
        shelf = Shelf(read_file(show_file(made(tree, room=row.below(3)))))
        readers = {}
        for _ in range(7):
            self.look_at(shelf.file(), tree)
            deed = read_deed(show_deed(drawn_deed(row, tree)))
            tree = self.do(shelf, tree, deed, readers, row)
            for number, (elder, _) in readers.items():
                self.assertEqual(shelf.read(number), elder)
            if row.below(3) == 0:
                readers[shelf.enter()] = tree, head_of(shelf.file())[1]
            if readers and row.below(3) == 0:
                number = sorted(readers)[0]
                shelf.leave(number)
                del readers[number]
            if len(shelf) > 200:
                break
        for number in shelf.readers():
            shelf.leave(number)
        shelf.pack()
        self.assertEqual(shelf.tree(), tree)
        self.assertTrue(is_least(shelf.file()))
        self.assertTrue(shelf == Shelf(made(turned(tree, "great"))))

    def do(self, shelf, tree, deed, readers, row):
        """Does the deed, torn at each stroke first; the tree behind it."""
        kept = {cell for _, root in readers.values() for cell in cells_in(shelf.file(), root=root)}
        try:
            strokes = strokes_of(shelf.file(), deed, kept=tuple(kept))
        except TornError as error:
            with self.assertRaises(type(error)):
                shelf.do(deed)
            self.met["refused"] = True
            return tree
        aim = naively_done(tree, deed)
        self.assertTrue(lets_strokes(shelf.file(), deed, strokes, kept=tuple(kept)))
        for many in range(len(strokes) + 1):
            file = torn(shelf.file(), strokes, many)
            self.assertEqual(read(file), aim if many == len(strokes) else tree)
            twin = shelf.twin()
            twin.do_torn(deed, many)
            self.assertEqual(twin.tree(), aim if many >= len(strokes) else tree)
            self.assertEqual({number: twin.read(number) for number in twin.readers()},
                             {number: elder for number, (elder, _) in readers.items()})
        if row.below(3) == 0 and strokes:
            shelf.do_torn(deed, len(strokes) - 1)
            self.met["torn"] = True
        shelf.do(deed)
        self.met[deed[0]] = True
        self.assertEqual(first_unlike(shelf.tree(), aim), None)
        return aim

    def look_at(self, file, tree):
        """Reads, maps, cuts, saves the file, and goes through it."""
        self.assertEqual(read(file), tree)
        told = map_of(file)
        self.assertEqual(told, Walk(file).map())
        self.assertTrue(lets_map(file, told))
        self.assertEqual(saved(file), tree)
        self.assertEqual(losses(file), [])
        for cells in range(0, len(file) // 4, 5):
            some = saved(file[:4 * cells])
            self.assertTrue(is_part(some, tree))
            if losses(file[:4 * cells]):
                self.met["lost"] = True
        self.assertEqual(read(least(tree)), tree)
        self.assertEqual(len(least(tree)), 4 * needed(tree))
        self.assertTrue(needed(tree) <= len(file) // 4)
        desk = Desk(file)
        for path in paths_in(tree[1]):
            for tag, kind, worths in table_of(tree, path):
                self.assertEqual(entry_at(tree, path, tag), (tag, kind, worths))
                word = "found", kind, len(worths) if kind == 5 else worths
                self.assertEqual(gone(file, way_to(path, tag)), word)
                answer = desk.say("get " + ".".join([str(number) for number in path]) + f" {tag}")
                self.assertEqual(answer.split(" ")[0], str(kind))
                self.met["found"] = True

    def test_who_knows_few_kinds(self):
        """Who knows few kinds changes nothing of the others, and passes over them."""
        for at, (_, chain) in enumerate(some_trees(16, raw=True)):
            for order in ("small", "great"):
                row = Row(at)
                file = Drawer(order, row).file(chain)
                for known in ((1,), (1, 4), (1, 5), (2, 3, 5)):
                    self.change_as(file, known, row)

    def change_as(self, file, known, row):
        shelf = Shelf(file, known=known)
        tree = shelf.tree()
        self.assertTrue(is_tree(tree, known=known))
        self.assertEqual(read_tree(str(shelf), known=known), tree)
        raw = self.raw_in(tree, known)
        for k in range(3):
            paths = paths_in(tree[1], (), known)
            if not paths:
                return
            path = paths[row.below(len(paths))]
            deed = ("put", path, (61000 + k, known[0], (1, 2, 3, 200)))
            if len(table_of(tree, path)) < 40:
                shelf.do(deed)
                tree = shelf.tree()
                self.assertEqual(self.raw_in(tree, known), raw)
                self.assertEqual(entry_at(tree, path, 61000 + k, known=known)[2], (1, 2, 3, 200))
        if raw:
            # To who knows all of them, all that was there is there.
            self.assertEqual(self.without(read(shelf.file())[1]), self.without(read(file)[1]))

    def raw_in(self, tree, known):
        return [(path, entry) for path in paths_in(tree[1], (), known) for entry in table_of(tree, path) if entry[1] not in known]

    def without(self, chain):
        """The chain without what was put into it."""
        return [[(tag, kind, [self.without(inner) for inner in worths] if kind == 5 else worths) for tag, kind, worths in table
                 if not 61000 <= tag < 61003] for table in chain]

    def test_what_is_told_again_is_the_same(self):
        for tree in some_trees(4):
            for call in (lambda: made(tree), lambda: least(tree), lambda: map_of(made(tree)), lambda: show_tree(tree),
                         lambda: strokes_of(made(tree), ("chain", (0,), ())), lambda: saved(made(tree)[:-4]),
                         lambda: losses(made(tree)[:-4])):
                self.assertEqual(call(), call())


class ShelfAndDeskTest(unittest.TestCase):
    def test_each_method_stands_in_its_class(self):
        for made_class, arguments in (
            (Shelf, {"__init__": "(self, file, *, known=(1, 2, 3, 4, 5, 6), room=2)", "enter": "(self)", "read": "(self, number)",
                     "leave": "(self, number)", "do": "(self, deed)", "do_torn": "(self, deed, many)", "pack": "(self)",
                     "file": "(self)", "tree": "(self)", "readers": "(self)", "spare": "(self)", "twin": "(self)",
                     "__len__": "(self)", "__eq__": "(self, other)", "__str__": "(self)", "__repr__": "(self)"}),
            (Desk, {"__init__": "(self, file)", "say": "(self, line)"}),
        ):
            for name, told in arguments.items():
                self.assertIn(name, vars(made_class))
                self.assertEqual(str(inspect.signature(vars(made_class)[name])), told, name)
        self.assertEqual(Shelf.__module__, "tornentries.shelf")
        self.assertEqual(Desk.__module__, "tornentries.desk")
        self.assertIs(vars(Shelf(made(("small", ()))))["busy"], False)
