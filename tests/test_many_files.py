import unittest

from tests.writing import Row, some_files
from tornentries.cells import is_file
from tornentries.errors import Spoilt
from tornentries.kinds import KNOWN
from tornentries.reading import read
from tornentries.trees import is_tree

SOME_KNOWN = (KNOWN, (), (1, 4), (5,), (6,), (5, 6), (1, 2, 3, 4, 6))
WHYS = ("head", "ring", "beyond", "room", "crossed", "long", "deep", "tags", "many", "sign")


def raw_where_unknown(order, told, whole, known):
    """Whether the chain told is the whole one, but for worths of kinds that aren't known."""
    if len(told) != len(whole):
        return False
    for table, other in zip(told, whole):
        if [entry[:2] for entry in table] != [entry[:2] for entry in other]:
            return False
        for (_, kind, worths), (_, _, others) in zip(table, other):
            if kind == 5 and kind in known:
                if len(worths) != len(others):
                    return False
                if not all([raw_where_unknown(order, *pair, known) for pair in zip(worths, others)]):
                    return False
            elif kind in known or kind > 6:
                if worths != others:
                    return False
    return True


class ManyFilesTest(unittest.TestCase):
    def test_what_was_written_is_read(self):
        for tree, file in some_files(250):
            self.assertIs(is_file(file), True)
            self.assertIs(is_tree(tree), True)
            self.assertEqual(read(file), tree)

    def test_for_fewer_known_kinds(self):
        for (order, chain), file in some_files(120):
            for known in SOME_KNOWN:
                told = read(file, known=known)
                self.assertIs(is_tree(told, known=known), True)
                self.assertEqual(told[0], order)
                self.assertTrue(raw_where_unknown(order, told[1], chain, known))

    def test_spoilt_or_read(self):
        met = {}
        for at, (_, file) in enumerate(some_files(60)):
            row = Row(1000 + at)
            for _ in range(40):
                numbers = list(file)
                for _ in range(1 + row.below(3)):
                    numbers[row.below(len(numbers))] = (row.below(256), row.below(12), 255)[row.below(3)]
                if row.below(4) == 0:
                    numbers = numbers[:4 * row.below(len(numbers) // 4)]
                for known in (KNOWN, (5, 6), ()):
                    met[self.read_or_why(tuple(numbers), known)] = True
        self.assertTrue(set(met) >= {"read", "head", "beyond", "room", "crossed", "tags", "many", "sign"})

    def read_or_why(self, file, known):
        try:
            self.assertIs(is_tree(read(file, known=known), known=known), True)
            return "read"
        except Spoilt as error:
            self.assertIn(error.why, WHYS)
            self.assertEqual(len(error.path) % 3, 0 if error.why == "head" else 1)
            if error.why in ("tags", "many", "sign"):
                self.assertIs(type(error.number), int)
            if error.why in ("head", "ring", "room", "long", "deep"):
                self.assertIsNone(error.number)
            return error.why
