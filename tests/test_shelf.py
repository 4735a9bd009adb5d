import unittest
from unittest import mock

from tests.building import ODD, ORDERS, laid, pointer, table
from tests.deedmaking import drawn_deed
from tests.drawing import drawn_files, has_raw
from tests.walking import Walk
from tests.writing import Row
from tornentries.alike import first_unlike
from tornentries.cells import stroked
from tornentries.deeds import done
from tornentries.errors import (Busy, NoDeed, NoPiece, NoReader, NoShare, NoTable, NoTag, Raw, Spoilt, Taken, TooDeep, TooGreat,
                                TooMany, TornError)
from tornentries.least import is_least, least, needed
from tornentries.making import made, turned
from tornentries.reading import read
from tornentries.shelf import Shelf
from tornentries.strokes import strokes_of
from tornentries.texts import show_tree

KNOWN = (1, 2, 3, 4, 5, 6)
FEWER = ((5,), (1, 4), (5, 6), (1, 2, 3, 4, 6), (1, 2, 3))
CHAIN = (((1, 1, (1, 2)), (2, 4, "a longer text"), (3, 5, ((((7, 2, (9,)),),), ())), (4, 6, ((1, 2), (), (1, 2)))), ())


def state_of(shelf):
    """All that a shelf tells of itself, and of its readers."""
    numbers = shelf.readers()
    return (shelf.file(), shelf.tree(), numbers, [shelf.read(number) for number in numbers], shelf.spare(), shelf.busy,
            len(shelf), str(shelf), repr(shelf))


class Watch:
    """Goes with a shelf, and knows by other means what it must tell."""

    def __init__(self, test, file, known=KNOWN, room=None):
        told = {} if room is None else {"room": room}
        self.test = test
        self.known = known
        self.room = 2 if room is None else room
        self.shelf = Shelf(file, known=known, **told)
        self.tree = read(file, known=known)
        self.count = 0
        self.readers = {}
        self.check()

    def enter(self):
        self.count += 1
        file = self.shelf.file()
        walk = Walk(file, self.known)
        self.test.assertEqual(self.shelf.enter(), self.count)
        cells = {cell: walk.cell(cell) for cell in walk.held() if cell != 1}
        self.readers[self.count] = (self.tree, cells)
        self.check()

    def leave(self, number):
        self.test.assertIsNone(self.shelf.leave(number))
        del self.readers[number]
        self.check()

    def kept(self):
        return sorted({cell for _, cells in self.readers.values() for cell in cells} | ({1} if self.readers else set()))

    def strokes(self, deed):
        return strokes_of(self.shelf.file(), deed, known=self.known, kept=self.kept(), room=self.room)

    def do(self, deed):
        try:
            strokes = self.strokes(deed)
        except TornError as error:
            self.refused(error, lambda: self.shelf.do(deed))
            self.refused(error, lambda: self.shelf.do_torn(deed, 0))
            self.refused(error, lambda: self.shelf.do_torn(deed, 99))
            return
        elder = self.shelf.file()
        self.test.assertEqual(self.shelf.do(deed), len(strokes))
        self.test.assertEqual(self.shelf.file(), stroked(elder, strokes))
        self.tree = done(self.tree, deed, known=self.known)
        self.check()

    def do_torn(self, deed, many):
        try:
            strokes = self.strokes(deed)
        except TornError as error:
            self.refused(error, lambda: self.shelf.do_torn(deed, many))
            return
        elder = self.shelf.file()
        self.test.assertIsNone(self.shelf.do_torn(deed, many))
        self.test.assertEqual(self.shelf.file(), stroked(elder, strokes[:many]))
        if many >= len(strokes):
            self.tree = done(self.tree, deed, known=self.known)
        self.check()

    def refused(self, error, call):
        elder = state_of(self.shelf)
        with self.test.assertRaises(type(error)) as met:
            call()
        self.test.assertEqual(vars(met.exception), vars(error))
        self.test.assertEqual(state_of(self.shelf), elder)
        self.check()

    def pack(self):
        if self.readers:
            return self.refused(Busy(), self.shelf.pack)
        raw = self.first_raw(self.tree[1], ())
        if raw is not None:
            return self.refused(raw, self.shelf.pack)
        self.test.assertIsNone(self.shelf.pack())
        self.test.assertTrue(is_least(self.shelf.file()))
        self.test.assertEqual(len(self.shelf), needed(self.tree))
        self.test.assertEqual(self.shelf.spare(), 0)
        self.check()

    def first_raw(self, chain, start):
        for n, table in enumerate(chain):
            for tag, kind, worths in table:
                if kind not in self.known:
                    return Raw(start + (n,), tag)
                for k, inner in enumerate(worths if kind == 5 else ()):
                    raw = self.first_raw(inner, start + (n, tag, k))
                    if raw is not None:
                        return raw
        return None

    def check(self):
        test, shelf = self.test, self.shelf
        file = shelf.file()
        test.assertIs(shelf.busy, False)
        test.assertEqual(shelf.tree(), self.tree)
        test.assertEqual(read(file, known=self.known), self.tree)
        test.assertEqual(shelf.readers(), sorted(self.readers))
        test.assertEqual(len(shelf), len(file) // 4)
        for number, (tree, cells) in self.readers.items():
            test.assertEqual(shelf.read(number), tree)
            test.assertEqual({cell: file[4 * cell:4 * cell + 4] for cell in cells}, cells)
        used = set(Walk(file, self.known).held()) | set(self.kept())
        test.assertEqual(shelf.spare(), len(shelf) - len(used))
        test.assertEqual(str(shelf), show_tree(self.tree, known=self.known))
        test.assertEqual(repr(shelf), f"Shelf({len(file) // 4} cells, {len(self.readers)} readers)")


class ReadersTest(unittest.TestCase):
    def test_by_hand(self):
        for order in ORDERS:
            shelf = Shelf(made((order, CHAIN)))
            first = shelf.tree()
            self.assertEqual(first, (order, CHAIN))
            self.assertEqual(shelf.readers(), [])
            self.assertEqual(shelf.enter(), 1)
            shelf.do(("out", (0,), 2))
            second = shelf.tree()
            self.assertEqual(shelf.enter(), 2)
            self.assertEqual(shelf.enter(), 3)
            shelf.do(("cut", (0,)))
            self.assertEqual([shelf.read(number) for number in (1, 2, 3)], [first, second, second])
            self.assertEqual(shelf.readers(), [1, 2, 3])
            self.assertIsNone(shelf.leave(2))
            self.assertEqual(shelf.readers(), [1, 3])
            self.assertEqual(shelf.enter(), 4)
            shelf.leave(4)
            self.assertEqual(shelf.enter(), 5)
            shelf.do(("cut", (0,)))
            self.assertEqual([shelf.read(number) for number in (1, 3, 5)], [first, second, (order, ((),))])
            self.assertEqual(shelf.tree(), (order, ()))
            self.assertEqual(shelf.enter(), 6)
            shelf.do(("chain", (0,), ()))
            self.assertEqual(shelf.read(6), (order, ()))

    def test_no_reader(self):
        shelf = Shelf(made(("small", CHAIN)))
        for number in (1, 2, 3):
            shelf.enter()
        shelf.leave(2)
        elder = state_of(shelf)
        for thing in ODD + (2, 4, 5, (1,), [1], "1", {1: 1}):
            if thing in (1, 3) and type(thing) is int:
                continue
            for call in (shelf.read, shelf.leave):
                with self.assertRaises(NoReader) as met:
                    call(thing)
                self.assertEqual(met.exception.number, thing if type(thing) is int else None)
                self.assertEqual(state_of(shelf), elder)
        shelf.leave(1)
        with self.assertRaises(NoReader):
            shelf.leave(1)
        with self.assertRaises(LookupError):
            shelf.read(1)

    def test_the_askers_own(self):
        shelf = Shelf(made(("small", CHAIN)))
        shelf.enter()
        shelf.enter()
        shelf.readers().clear()
        self.assertEqual(shelf.readers(), [1, 2])

    def test_by_turns(self):
        met = {}
        for at, (tree, file) in enumerate(drawn_files(36, least=20, most=120)):
            row = Row(70 + at)
            known = ((KNOWN,) * 3 + FEWER)[at % 8]
            watch = Watch(self, file, known, (None, 0, 5, 40)[at % 4] if at % 3 else None)
            for _ in range(14):
                step = row.below(9)
                deed = drawn_deed(row, watch.tree, known) if known else ("cut", (0,))
                if step < 4:
                    watch.do(deed)
                elif step < 6:
                    watch.do_torn(deed, row.below(12))
                elif step == 6:
                    watch.enter()
                elif step == 7 and watch.readers:
                    numbers = sorted(watch.readers)
                    watch.leave(numbers[row.below(len(numbers))])
                else:
                    watch.pack()
                met[step] = True
                if len(watch.shelf) > 200:
                    break
        self.assertEqual(len(met), 9)


class DeedsTest(unittest.TestCase):
    def test_how_many_strokes(self):
        for order in ORDERS:
            file = laid(order, 2, {2: table(order, 3, [(1, 1, 1, (5, 0, 0, 0))])})
            shelf = Shelf(file)
            self.assertEqual(shelf.do(("put", (0,), (2, 1, (7,)))), len(strokes_of(file, ("put", (0,), (2, 1, (7,))))))
            self.assertEqual(shelf.do(("change", (0,), (2, 1, (8,)))), 1)
            self.assertEqual(shelf.do(("change", (0,), (2, 1, (8,)))), 0)
            self.assertEqual(shelf.do(("out", (0,), 2)), 1)
            self.assertEqual(shelf.do(("cut", (0,))), 1)
            self.assertEqual(shelf.tree(), (order, ()))

    def test_room(self):
        file = made(("small", (((1, 1, (1,)),),)))
        for room in (0, 1, 2, 7, 40):
            shelf = Shelf(file, room=room)
            shelf.do(("put", (0,), (2, 1, (1,))))
            first = int.from_bytes(bytes(shelf.file()[4:8]), "little")
            self.assertEqual(shelf.file()[4 * first:4 * first + 4], (2, 0, min(40, 2 + room), 0))
        self.assertEqual(Shelf(file, room=2).file(), Shelf(file).file())
        told, left = Shelf(file, room=2), Shelf(file)
        for shelf in (told, left):
            shelf.do(("put", (0,), (2, 1, (1,))))
        self.assertEqual(told.file(), left.file())

    def test_torn_at_each_stroke(self):
        for order in ORDERS:
            file = made((order, CHAIN))
            for deed in (("put", (0,), (9, 6, ((5,) * 9, (6,)))), ("out", (0, 3, 0, 0), 7), ("piece", (0,), 4, 1, (3, 3)),
                         ("chain", (1,), ((1, 4, "another text"),)), ("cut", (0,)), ("share", (1,), 5, (0,), 2),
                         ("change", (0,), (2, 4, "some other text"))):
                for readers in (0, 1):
                    strokes = self.tear(file, deed, readers)
                    self.assertTrue(strokes >= 1)

    def tear(self, file, deed, readers):
        tree = read(file)
        shelf = Shelf(file)
        for _ in range(readers):
            shelf.enter()
        whole = shelf.twin()
        strokes = whole.do(deed)
        for many in list(range(strokes + 3)) + [10 ** 9]:
            other = shelf.twin()
            self.assertIsNone(other.do_torn(deed, many))
            self.assertIs(other.busy, False)
            self.assertEqual(other.tree(), tree if many < strokes else done(tree, deed))
            self.assertEqual(other.readers(), list(range(1, readers + 1)))
            self.assertEqual([other.read(number) for number in other.readers()], [tree] * readers)
            if many >= strokes:
                self.assertEqual(other.file(), whole.file())
            else:
                # What was torn can be done again, and then is done.
                other.do(deed)
                self.assertEqual(other.tree(), done(tree, deed))
        return strokes

    def test_refused(self):
        ten = ((),) * 10
        full = tuple([(tag, 1, ()) for tag in range(40)])
        deep = ((1, 5, ((((1, 5, ((((1, 5, (((),),)),),),)),),),)),)
        chain = (full, deep, ((1, 5, (ten,)), (2, 6, ((1,),)), (3, 7, (1, 2))))
        for order in ORDERS:
            shelf = Shelf(made((order, chain[:2] + (chain[2][:2],))))
            watch = Watch(self, shelf.file())
            for error, deed in (
                (NoDeed(), ("put", (0,))), (NoDeed(), None), (NoDeed(), ("put", (0,), (1, 7, ()))), (NoDeed(), ["cut", (0,)]),
                (NoTable((3,)), ("cut", (3,))), (NoTable((4,)), ("chain", (4,), ())),
                (NoTag(41), ("out", (0,), 41)), (NoTag(9), ("change", (1,), (9, 1, ()))), (NoTag(1), ("piece", (1,), 1, 0, ())),
                (NoShare(), ("share", (2,), 9, (1,), 1)), (Taken(1), ("put", (1,), (1, 1, ()))), (Taken(2), ("share", (2,), 2, (0,), 0)),
                (NoPiece(1), ("piece", (2,), 2, 1, ())), (TooMany(), ("put", (0,), (99, 1, ()))),
                (TooMany(), ("chain", (2, 1, 0, 3), ())), (TooDeep(), ("put", (1, 1, 0, 0, 1, 0, 0), (9, 5, ((((1, 5, (((),),)),),),))))):
                for _ in range(2):
                    watch.refused(error, lambda: watch.shelf.do(deed))
                    for many in (0, 1, 10 ** 6):
                        watch.refused(error, lambda: watch.shelf.do_torn(deed, many))
                    if not watch.readers:
                        watch.enter()
                watch.leave(watch.count)

    def test_too_great(self):
        great = ("put", (0,), (9, 6, tuple([(k,) * 300 for k in range(14)])))
        watch = Watch(self, made(("small", CHAIN)))
        watch.refused(TooGreat(), lambda: watch.shelf.do(great))
        watch.refused(TooGreat(), lambda: watch.shelf.do_torn(great, 3))

    def test_spoilt(self):
        for order in ORDERS:
            for file, why, path in (((), "head", ()), (laid(order, 9, {2: table(order, 0, [])}), "beyond", (0,)),
                                    (laid(order, 2, {2: table(order, 0, [], 2)}), "ring", (1,))):
                with self.assertRaises(Spoilt) as met:
                    Shelf(file)
                self.assertEqual((met.exception.why, met.exception.path, met.exception.number), (why, path, None))
            sign = laid(order, 2, {2: table(order, 1, [(1, 4, 1, (1, 0, 0, 0))])})
            with self.assertRaises(Spoilt):
                Shelf(sign)
            self.assertEqual(Shelf(sign, known=(1, 5)).tree(), (order, (((1, 4, (1,)),),)))


class PackTest(unittest.TestCase):
    def test_packed(self):
        for at, (tree, file) in enumerate(drawn_files(30, raw=False)):
            watch = Watch(self, file)
            watch.pack()
            self.assertEqual(watch.shelf.tree(), tree)
            watch.pack()
            watch.enter()
            watch.refused(Busy(), watch.shelf.pack)
            watch.do(("chain", (0,), ()))
            watch.refused(Busy(), watch.shelf.pack)
            watch.leave(1)
            watch.pack()
            watch.enter()
            self.assertEqual(watch.shelf.readers(), [2])

    def test_busy_ahead_of_raw(self):
        met = 0
        for tree, file in drawn_files(30):
            for known in (KNOWN, (5,), (1, 2, 3)):
                watch = Watch(self, file, known)
                watch.pack()
                watch.enter()
                watch.refused(Busy(), watch.shelf.pack)
                met += has_raw(watch.tree[1], known)
        self.assertTrue(met > 20)

    def test_raw_to_the_shelf(self):
        # A kind of the six that the shelf doesn't know is raw to it.
        file = made(("small", ((), ((3, 1, (1,)), (4, 6, ((1,),)), (5, 4, "abc")))))
        for known, tag in (((1, 2, 3), 4), ((1, 4), 4), ((1, 6), 5), ((), 3), ((4, 6), 3)):
            with self.assertRaises(Raw) as met:
                Shelf(file, known=known).pack()
            self.assertEqual((met.exception.path, met.exception.tag), ((1,), tag))
        shelf = Shelf(file, known=(1, 4, 6))
        shelf.pack()
        self.assertTrue(is_least(shelf.file()))

    def test_where_nothing_is_known_of_what_is_not_there(self):
        shelf = Shelf(made(("great", ((), ((1, 4, "some text"),))), room=5), known=(4,))
        shelf.pack()
        self.assertEqual(shelf.tree(), ("great", ((), ((1, 4, "some text"),))))
        self.assertEqual((len(shelf), shelf.spare()), (2 + 2 + 5 + 3, 0))


class ToldTest(unittest.TestCase):
    def test_length_and_texts(self):
        for order in ORDERS:
            file = laid(order, 3, {3: table(order, 1, [(1, 4, 2, (65, 66, 0, 0))])}, cells=11)
            shelf = Shelf(file)
            self.assertEqual(len(shelf), 11)
            self.assertEqual(str(shelf), "order " + order + "\ntable\ntext 1 AB\nend\n")
            self.assertEqual(repr(shelf), "Shelf(11 cells, 0 readers)")
            self.assertEqual(shelf.spare(), 4)
            self.assertEqual(str(Shelf(file, known=())), "order " + order + "\ntable\nentry 1 4 65 66\nend\n")
            self.assertEqual(Shelf(file, known=()).spare(), 4)
            shelf.enter()
            shelf.enter()
            self.assertEqual(repr(shelf), "Shelf(11 cells, 2 readers)")
            shelf.leave(1)
            self.assertEqual(repr(shelf), "Shelf(11 cells, 1 readers)")
            shelf.do(("cut", (0,)))
            self.assertEqual((len(shelf), shelf.spare()), (11, 4))
            shelf.leave(2)
            self.assertEqual((len(shelf), shelf.spare()), (11, 9))
            self.assertEqual(len(Shelf(laid(order, 0, {}))), 2)

    def test_alike(self):
        small, great = ("small", CHAIN), ("great", CHAIN)
        one = Shelf(made(small))
        for other in (Shelf(made(small, room=7)), Shelf(made(great)), Shelf(made(small), room=9), Shelf(laid("small", 0, {}))):
            if other.tree()[1] == ():
                self.assertFalse(one == other)
                self.assertTrue(one != other)
                for n, table_ in enumerate(CHAIN):
                    other.do(("chain", (n,), table_))
            self.assertTrue(one == other)
            self.assertFalse(one != other)
            other.enter()
            self.assertTrue(other == one)
            other.do(("out", (0,), 1))
            self.assertFalse(one == other)
            self.assertTrue(other != one)
        self.assertFalse(one == Shelf(made(small), known=(1, 2, 3, 4, 5)))
        self.assertFalse(one == Shelf(made(small), known=()))
        none = Shelf(laid("small", 0, {}))
        self.assertTrue(none == Shelf(laid("great", 0, {})))
        self.assertFalse(none == Shelf(laid("small", 0, {}), known=(1,)))
        self.assertTrue(Shelf(laid("small", 0, {}), known=(1,)) == Shelf(laid("great", 0, {}), known=(1,)))

    def test_raw_entries_of_another_order(self):
        small = laid("small", 2, {2: table("small", 1, [(1, 7, 1, (1, 2, 0, 0))])})
        great = laid("great", 2, {2: table("great", 1, [(1, 7, 1, (1, 2, 0, 0))])})
        self.assertTrue(Shelf(small) == Shelf(small))
        self.assertFalse(Shelf(small) == Shelf(great))

    def test_as_first_unlike_tells(self):
        files = [file for _, file in drawn_files(25)]
        for at, file in enumerate(files):
            for other in files[at:at + 3]:
                told = first_unlike(read(file), read(other)) is None
                self.assertIs(Shelf(file) == Shelf(other), told)
        for tree, file in drawn_files(10, raw=False):
            order = "small" if tree[0] == "great" else "great"
            self.assertTrue(Shelf(file) == Shelf(made(turned(tree, order), room=1)))

    def test_like_nothing_else(self):
        shelf = Shelf(made(("small", CHAIN)))
        for thing in ODD + (shelf.tree(), shelf.file(), str(shelf), [shelf], Shelf):
            self.assertIs(shelf == thing, False)
            self.assertIs(shelf != thing, True)
            self.assertIs(thing == shelf, False)
        self.assertIs(shelf == shelf, True)


class TwinTest(unittest.TestCase):
    def test_from_then_on_by_itself(self):
        for order in ORDERS:
            shelf = Shelf(made((order, CHAIN)), room=5)
            shelf.enter()
            shelf.enter()
            shelf.do(("cut", (1,)))
            shelf.leave(1)
            twin = shelf.twin()
            self.assertIs(type(twin), Shelf)
            self.assertEqual(state_of(twin), state_of(shelf))
            self.assertTrue(twin == shelf)
            for one, other in ((twin, shelf), (shelf, twin)):
                elder = state_of(other)
                self.assertEqual(one.enter(), 3)
                one.do(("put", (0,), (77, 4, "of the one alone")))
                one.do_torn(("put", (0,), (78, 4, "torn at the one")), 2)
                one.leave(2)
                self.assertEqual(state_of(other), elder)
                one.leave(3)
                one.pack()
                self.assertEqual(state_of(other), elder)

    def test_known_kinds_and_room(self):
        file = made(("small", CHAIN))
        for known in (KNOWN, (1, 4), (5,)):
            for room in (0, 3):
                shelf = Shelf(file, known=known, room=room)
                twin = shelf.twin()
                deed = ("cut", (1,)) if known == (5,) else ("put", (1,), (7, 4, "a text of some length"))
                self.assertEqual(twin.do(deed), shelf.do(deed))
                self.assertEqual(state_of(twin), state_of(shelf))
                self.assertTrue(twin == shelf)

    def test_at_any_turn(self):
        for at, (tree, file) in enumerate(drawn_files(12, least=20, most=100)):
            row = Row(at)
            watch = Watch(self, file)
            for _ in range(6):
                watch.enter()
                twin = watch.shelf.twin()
                elder = state_of(watch.shelf)
                self.assertEqual(state_of(twin), elder)
                watch.do(drawn_deed(row, watch.tree))
                self.assertEqual(state_of(twin), elder)


class BusyTest(unittest.TestCase):
    def test_while_it_does_tears_or_packs(self):
        shelf = Shelf(made(("small", CHAIN)))
        seen = []

        def noting(call):
            def noted(*parts, **more):
                seen.append(shelf.busy)
                return call(*parts, **more)
            return noted

        deed = ("cut", (1,))
        with mock.patch("tornentries.shelf.strokes_of", noting(strokes_of)), mock.patch("tornentries.shelf.least", noting(least)):
            for call in (lambda: shelf.do_torn(deed, 0), lambda: shelf.do(deed), shelf.pack):
                self.assertIs(shelf.busy, False)
                call()
                self.assertIs(shelf.busy, False)
            with self.assertRaises(NoTable):
                shelf.do(deed)
            self.assertIs(shelf.busy, False)
        self.assertEqual(seen, [True] * 4)


class HandedInTest(unittest.TestCase):
    def test_nothing_is_changed(self):
        file = made(("small", CHAIN))
        copy = tuple(list(file))
        shelf = Shelf(file)
        shelf.enter()
        deed = ("put", (0,), (9, 6, ((1,),)))
        shelf.do(deed)
        shelf.leave(1)
        shelf.pack()
        self.assertEqual(file, copy)
        self.assertEqual(deed, ("put", (0,), (9, 6, ((1,),))))

    def test_cells_of_a_reader_stay(self):
        # In unused room of a table, too, and all the more where the table is in the way.
        for order in ORDERS:
            file = laid(order, 2, {2: table(order, 3, [(1, 1, 1, (5, 0, 0, 0))])})
            shelf = Shelf(file)
            shelf.enter()
            shelf.do(("put", (0,), (2, 1, (7,))))
            self.assertEqual(shelf.file()[:4] + shelf.file()[8:len(file)], file[:4] + file[8:])
            self.assertEqual(shelf.file()[4:8], pointer(order, len(file) // 4))
            self.assertEqual(shelf.spare(), 0)
            shelf.leave(1)
            self.assertEqual(shelf.spare(), len(file) // 4 - 2)
