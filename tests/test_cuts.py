import unittest

from tests.building import ODD, ORDERS, laid, pair, pointer, table, variants
from tests.deedmaking import drawn_deed
from tests.drawing import drawn_files
from tests.walking import Walk
from tests.writing import Row
from tornentries.cells import is_stroke, stroked
from tornentries.cuts import lets_strokes, torn
from tornentries.deeds import done
from tornentries.errors import Spoilt, TornError
from tornentries.kinds import KNOWN
from tornentries.reading import read
from tornentries.strokes import strokes_of


def reads_as(file, known, tree):
    try:
        return read(file, known=known) == tree
    except Spoilt:
        return False


def lets_by_the_words(file, deed, thing, known=KNOWN, kept=()):
    """Whether this is a list of strokes of the deed, told by the wording of the promise alone."""
    if type(thing) is not list or not all([is_stroke(stroke) for stroke in thing]):
        return False
    tree = read(file, known=known)
    aim = done(tree, deed, known=known)
    if aim == tree:
        return thing == []
    walk = Walk(file, known)
    free = set(walk.spare()) | set(walk.unused()) | set(range(len(file) // 4, 1000))
    for cell, _ in thing[:-1]:
        if cell not in free or cell in kept:
            return False
    if not thing or (thing[-1][0] != 1 and thing[-1][0] in kept):
        return False
    return reads_as(stroked(file, thing), known, aim) and all(
        [reads_as(stroked(file, thing[:many]), known, tree) for many in range(len(thing))])


def otherwise(strokes, file, row):
    """Lists of strokes that are these but for something."""
    for at, (cell, numbers) in enumerate(strokes):
        ahead, behind = strokes[:at], strokes[at + 1:]
        yield ahead + behind
        yield ahead + [strokes[at]] * 2 + behind
        for other in (at + 1, row.below(len(strokes))):
            if other < len(strokes):
                exchanged = list(strokes)
                exchanged[at], exchanged[other] = exchanged[other], exchanged[at]
                yield exchanged
        for place in (cell + 1, cell - 1, 0, 1, row.below(len(file) // 4), len(file) // 4, 999):
            if 0 <= place <= 999:
                yield ahead + [(place, numbers)] + behind
        k = row.below(4)
        for fresh in ((numbers[k] + 1) % 256, row.below(256)):
            yield ahead + [(cell, numbers[:k] + (fresh,) + numbers[k + 1:])] + behind
        yield ahead + [(row.below(len(file) // 4), (0, 0, 0, 0))] + strokes[at:]
        yield ahead + [(cell, (9, 9, 9, 9))] + strokes[at:]
        yield ahead + [(999, (9, 9, 9, 9))] + strokes[at:]
    for many in range(len(strokes)):
        yield strokes[:many]
    yield strokes[::-1]
    yield strokes + [(999, (0, 0, 0, 0))]


class TornTest(unittest.TestCase):
    def test_none_some_all_and_more(self):
        strokes = [(2, (1, 2, 3, 4)), (0, (5, 6, 7, 8)), (2, (9, 9, 9, 9)), (4, (1, 1, 1, 1))]
        file = (0,) * 8
        self.assertEqual(torn(file, strokes, 0), file)
        self.assertEqual(torn(file, strokes, 1), (0,) * 8 + (1, 2, 3, 4))
        self.assertEqual(torn(file, strokes, 2), (5, 6, 7, 8, 0, 0, 0, 0, 1, 2, 3, 4))
        self.assertEqual(torn(file, strokes, 3), (5, 6, 7, 8, 0, 0, 0, 0, 9, 9, 9, 9))
        for many in (4, 5, 100, 10 ** 50):
            self.assertEqual(torn(file, strokes, many), (5, 6, 7, 8) + (0,) * 4 + (9,) * 4 + (0,) * 4 + (1,) * 4)
        self.assertEqual(strokes[0], (2, (1, 2, 3, 4)))
        self.assertEqual(torn((), [], 0), ())
        self.assertEqual(torn(file, [], 3), file)
        self.assertIs(type(torn(file, strokes, 2)), tuple)

    def test_strokes_of_deeds(self):
        for at, (tree, file) in enumerate(drawn_files(30, least=24)):
            deed = drawn_deed(Row(at), tree)
            try:
                strokes = strokes_of(file, deed)
            except TornError:
                continue
            for many in range(len(strokes) + 3):
                self.assertEqual(torn(file, strokes, many), stroked(file, strokes[:many]))


class LetsStrokesTest(unittest.TestCase):
    def setUp(self):
        self.met = {True: 0, False: 0}

    def lets(self, told, file, deed, thing, **more):
        self.assertIs(lets_strokes(file, deed, thing, **more), told, thing)
        self.assertIs(lets_by_the_words(file, deed, thing, **more), told, thing)
        self.met[told] += 1

    @staticmethod
    def sample(order):
        """A table with room for one more entry at cell 3, and six spare cells behind it."""
        return laid(order, 3, {3: table(order, 2, [(1, 1, 1, (5, 0, 0, 0))])}, cells=17)

    def test_the_told_ones_and_others(self):
        for order in ORDERS:
            file = self.sample(order)
            deed = ("put", (0,), (2, 1, (6,)))
            row = [(7, pair(order, 2, 1)), (8, pointer(order, 1)), (9, (6, 0, 0, 0))]
            last = (3, pair(order, 2, 2))
            self.assertEqual(strokes_of(file, deed), row + [last])
            self.lets(True, file, deed, row + [last])
            # In any order, twice, with what is left of the cell otherwise, with others in spare cells.
            self.lets(True, file, deed, row[::-1] + [last])
            self.lets(True, file, deed, row * 2 + [last])
            self.lets(True, file, deed, row[:2] + [(9, (6, 7, 8, 9)), last])
            self.lets(True, file, deed, row + [(2, (9, 9, 9, 9)), (16, (9, 9, 9, 9)), (17, (9, 9, 9, 9)), (999, (9, 9, 9, 9)), last])
            self.lets(True, file, deed, [(9, (1, 1, 1, 1))] + row + [last])
            for wrong in (row, row + [last] * 2, [last] + row, row[:2] + [last], row[1:] + [last], row + [last] + row[:1],
                          row + [(3, pair(order, 2, 1))], row + [(3, pair(order, 3, 2))], row + [(4, last[1])],
                          row[:2] + [(9, (7, 0, 0, 0)), last], row[:2] + [(10, row[2][1]), last], []):
                self.lets(False, file, deed, wrong)

    def test_strokes_that_change_nothing_at_a_place_that_is_not_free(self):
        for order in ORDERS:
            file = self.sample(order)
            deed = ("put", (0,), (2, 1, (6,)))
            strokes = strokes_of(file, deed)
            for cell in (0, 1, 3, 4, 5, 6, 10):
                same = (cell, file[4 * cell:4 * cell + 4])
                self.lets(False, file, deed, [same] + strokes)
                self.lets(False, file, deed, strokes[:-1] + [same] + strokes[-1:])
            for cell in (2, 7, 8, 9, 11, 16):
                self.lets(True, file, deed, [(cell, file[4 * cell:4 * cell + 4])] + strokes)

    def test_another_way_than_the_told_one(self):
        for order in ORDERS:
            file = self.sample(order)
            # The table laid anew behind the end, with the entry in it.
            numbers = table(order, 2, [(1, 1, 1, (5, 0, 0, 0)), (2, 1, 1, (6, 0, 0, 0))])
            strokes = [(20 + k, numbers[4 * k:4 * k + 4]) for k in range(8)] + [(1, pointer(order, 20))]
            deed = ("put", (0,), (2, 1, (6,)))
            for kept in ((), (0, 1), tuple(range(17))):
                self.lets(True, file, deed, strokes, kept=kept)
            self.lets(False, file, deed, strokes, kept=(20,))
            self.lets(False, file, deed, strokes, kept=(27,))
            self.lets(False, file, deed, strokes + [(2, (0, 0, 0, 0))])

    def test_kept_cells(self):
        for order in ORDERS:
            file = self.sample(order)
            deed = ("put", (0,), (2, 1, (6,)))
            strokes = strokes_of(file, deed)
            for cell in range(20):
                self.lets(cell not in (3, 7, 8, 9), file, deed, strokes, kept=(cell,))
            cut = [(1, pointer(order, 0))]
            self.lets(True, file, ("cut", (0,)), cut, kept=tuple(range(1000)))
            self.lets(True, file, ("out", (0,), 1), [(3, pair(order, 0, 2))], kept=(0, 1, 2, 4))
            self.lets(False, file, ("out", (0,), 1), [(3, pair(order, 0, 2))], kept=(3,))

    def test_unsure_cells(self):
        for order in ORDERS:
            file = laid(order, 3, {3: table(order, 2, [(1, 9, 1, (5, 0, 0, 0))])}, cells=17)
            deed = ("put", (0,), (2, 1, (6,)))
            strokes = strokes_of(file, deed)
            self.lets(True, file, deed, strokes)
            self.lets(False, file, deed, [(2, (0, 0, 0, 0))] + strokes)
            self.lets(False, file, deed, [(16, (0, 0, 0, 0))] + strokes)
            self.lets(True, file, deed, [(17, (0, 0, 0, 0))] + strokes)

    def test_fewer_known_kinds(self):
        for order in ORDERS:
            file = laid(order, 3, {3: table(order, 2, [(1, 2, 1, (5, 0, 0, 0))])}, cells=17)
            deed = ("put", (0,), (2, 1, (6,)))
            strokes = [(2, (0, 0, 0, 0))] + strokes_of(file, deed)
            self.lets(True, file, deed, strokes)
            self.lets(True, file, deed, strokes, known=(1, 2))
            self.lets(False, file, deed, strokes, known=(1, 3))
            self.lets(True, file, deed, strokes[1:], known=(1, 3))

    def test_where_deed_and_tree_give_the_same_tree(self):
        for order in ORDERS:
            file = self.sample(order)
            deed = ("change", (0,), (1, 1, (5,)))
            self.lets(True, file, deed, [])
            for thing in ([(2, (0, 0, 0, 0))], [(6, (5, 0, 0, 0))], [(6, (5, 1, 1, 1))], [(999, (0, 0, 0, 0))]):
                self.lets(False, file, deed, thing)

    def test_odd_things(self):
        for order in ORDERS:
            file = self.sample(order)
            for deed in (("put", (0,), (2, 1, (6,))), ("change", (0,), (1, 1, (5,)))):
                strokes = strokes_of(file, deed)
                for thing in ODD + (tuple(strokes), [list(stroke) for stroke in strokes + [(2, ())]], dict(strokes), [strokes], str(strokes)):
                    if thing != [] or strokes:
                        self.assertIs(lets_strokes(file, deed, thing), False, thing)

    def test_one_thing_otherwise(self):
        for order in ORDERS:
            file = self.sample(order)
            deed = ("put", (0,), (2, 1, (6,)))
            for thing in variants(strokes_of(file, deed)):
                self.lets(lets_by_the_words(file, deed, thing), file, deed, thing)
        self.assertGreater(self.met[False], 100)

    def test_truths_in_the_place_of_numbers(self):
        for order in ORDERS:
            file = self.sample(order)
            deed = ("put", (0,), (2, 1, (6,)))
            strokes = strokes_of(file, deed)
            for at, (cell, numbers) in enumerate(strokes):
                for k, number in enumerate(numbers):
                    if number in (0, 1):
                        thing = list(strokes)
                        thing[at] = (cell, numbers[:k] + (number == 1,) + numbers[k + 1:])
                        self.lets(False, file, deed, thing)
            self.lets(True, file, ("cut", (0,)), [(1, (0, 0, 0, 0))])
            self.lets(False, file, ("cut", (0,)), [(True, (0, 0, 0, 0))])

    def test_those_of_another_deed(self):
        for order in ORDERS:
            file = self.sample(order)
            deeds = [("put", (0,), (2, 1, (6,))), ("put", (0,), (2, 1, (7,))), ("put", (0,), (3, 1, (6,))), ("out", (0,), 1),
                     ("cut", (0,)), ("chain", (0,), ()), ("chain", (1,), ()), ("change", (0,), (1, 1, (6,))),
                     ("share", (0,), 2, (0,), 1)]
            for one in deeds:
                for other in deeds:
                    self.lets(one == other, file, one, strokes_of(file, other))

    def test_a_stroke_ahead_of_which_the_file_is_spoilt(self):
        for order in ORDERS:
            file = laid(order, 2, {2: table(order, 1, [])}, cells=10)
            chain = ("chain", (1,), ())
            good = [(8, pair(order, 0, 0)), (9, pointer(order, 0)), (6, pointer(order, 8))]
            self.lets(True, file, chain, good)
            self.lets(False, file, chain, [good[2], good[0], good[1]])
            self.lets(False, file, chain, good + [(6, pointer(order, 8))])

    def test_drawn_deeds(self):
        for raw in (False, True):
            for at, (tree, file) in enumerate(drawn_files(12, least=16, most=60, raw=raw)):
                row = Row(at)
                for known in (KNOWN, (1, 4, 5)):
                    deed = drawn_deed(row, read(file, known=known), known)
                    try:
                        done(read(file, known=known), deed, known=known)
                    except TornError:
                        continue
                    kept = ((), tuple(Walk(file, known).held()))[row.below(2)]
                    strokes = strokes_of(file, deed, known=known, kept=kept, room=row.below(2))
                    self.lets(True, file, deed, strokes, known=known, kept=kept)
                    for thing in list(otherwise(strokes, file, row))[:90]:
                        self.lets(lets_by_the_words(file, deed, thing, known, kept), file, deed, thing, known=known, kept=kept)
        self.assertGreater(min(self.met.values()), 100, self.met)
