import unittest

from tests.building import ORDERS
from tornentries.texts import show_deed, show_tree

TREE = (
    (0, 1, ()), (1, 1, (0,)), (2, 1, (255, 0, 7)), (3, 2, (65535, 10)), (4, 3, (4294967295,)),
    (5, 4, ""), (6, 4, "abc"), (7, 4, " a  b "), (8, 4, " "),
    (9, 5, ()), (10, 5, ((),)), (11, 5, ((), ((),), (((1, 5, ((((2, 4, "x"),), ()),)),), ((3, 1, (4,)),)))),
    (12, 6, ()), (13, 6, ((),)), (14, 6, ((1, 2, 255), (), (0,))),
    (15, 0, (1, 2)), (16, 9, ()), (65535, 65535, (3,)),
)

LINES = [
    "table",
    "entry 0 1", "entry 1 1 0", "entry 2 1 255 0 7", "entry 3 2 65535 10", "entry 4 3 4294967295",
    "text 5 ", "text 6 abc", "text 7  a  b ", "text 8  ",
    "chains 9", "end",
    "chains 10", "chain", "done", "end",
    "chains 11", "chain", "done", "chain", "table", "end", "done", "chain",
    "table", "chains 1", "chain", "table", "text 2 x", "end", "table", "end", "done", "end", "end",
    "table", "entry 3 1 4", "end", "done", "end",
    "pieces 12", "end",
    "pieces 13", "piece", "end",
    "pieces 14", "piece 1 2 255", "piece", "piece 0", "end",
    "entry 15 0 1 2", "entry 16 9", "entry 65535 65535 3",
    "end",
]


def text(*lines):
    return "".join([line + "\n" for line in lines])


class ShowTreeTest(unittest.TestCase):
    def test_every_sort_of_line(self):
        for order in ORDERS:
            self.assertEqual(show_tree((order, (TREE,))), text("order " + order, *LINES))
            self.assertIs(type(show_tree((order, (TREE,)))), str)

    def test_tables_of_a_chain(self):
        self.assertEqual(show_tree(("small", ())), "order small\n")
        self.assertEqual(show_tree(("great", ((), ()))), "order great\ntable\nend\ntable\nend\n")
        self.assertEqual(show_tree(("great", (((1, 1, (2,)),), (), ((1, 1, (3,)),)))),
                         "order great\ntable\nentry 1 1 2\nend\ntable\nend\ntable\nentry 1 1 3\nend\n")

    def test_for_fewer_known_kinds(self):
        tree = ("small", (((1, 1, (2,)), (3, 4, (97, 98)), (4, 5, (0, 0, 0, 9)), (5, 6, ()), (6, 3, (1, 2, 3, 4)), (7, 2, ())),))
        for known in ((), (1,)):
            self.assertEqual(show_tree(tree, known=known),
                             text("order small", "table", "entry 1 1 2", "entry 3 4 97 98", "entry 4 5 0 0 0 9", "entry 5 6",
                                  "entry 6 3 1 2 3 4", "entry 7 2", "end"))
        tree = ("small", (((3, 4, "ab"), (4, 5, ((((1, 6, (0, 0, 0, 0)),),),)), (5, 6, ())),))
        self.assertEqual(show_tree(tree, known=(4, 5)),
                         text("order small", "table", "text 3 ab", "chains 4", "chain", "table", "entry 1 6 0 0 0 0", "end",
                              "done", "end", "entry 5 6", "end"))
        tree = ("small", (((4, 5, ()), (5, 6, ((1,),))),))
        self.assertEqual(show_tree(tree, known=(6,)), text("order small", "table", "entry 4 5", "pieces 5", "piece 1", "end", "end"))


class ShowDeedTest(unittest.TestCase):
    def test_each_word(self):
        for deed, lines in (
            (("put", (0,), (5, 1, (1, 2))), ["put 0", "entry 5 1 1 2"]),
            (("put", (0, 1, 2, 3), (5, 4, "")), ["put 0.1.2.3", "text 5 "]),
            (("put", (0, 1, 2, 3, 4, 5, 6), (5, 6, ((), (1,)))), ["put 0.1.2.3.4.5.6", "pieces 5", "piece", "piece 1", "end"]),
            (("change", (9, 65535, 299, 9, 8, 7, 6, 5, 4, 3), (5, 5, ((), (((1, 1, ()),),)))),
             ["change 9.65535.299.9.8.7.6.5.4.3", "chains 5", "chain", "done", "chain", "table", "entry 1 1", "end", "done",
              "end"]),
            (("change", (0,), (65535, 3, (4294967295,))), ["change 0", "entry 65535 3 4294967295"]),
            (("out", (10,), 0), ["out 10 0"]),
            (("out", (10, 0, 0, 0), 65535), ["out 10.0.0.0 65535"]),
            (("share", (0,), 5, (1, 2, 3, 4), 6), ["share 0 5 1.2.3.4 6"]),
            (("piece", (0,), 5, 0, ()), ["piece 0 5 0"]),
            (("piece", (0,), 5, 299, (1, 255, 0)), ["piece 0 5 299 1 255 0"]),
            (("chain", (0,), ()), ["chain 0", "table", "end"]),
            (("chain", (1, 2, 0, 10), ((1, 4, " x "), (2, 2, (3,)))), ["chain 1.2.0.10", "table", "text 1  x ", "entry 2 2 3", "end"]),
            (("cut", (0,)), ["cut 0"]),
            (("cut", (1, 2, 3, 4)), ["cut 1.2.3.4"]),
            (("cut", (9999999999,)), ["cut 9999999999"]),
        ):
            self.assertEqual(show_deed(deed), text(*lines))
