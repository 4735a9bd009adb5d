import unittest

from tests.building import ODD
from tests.deedmaking import drawn_deed
from tests.drawing import drawn_files, drawn_tree
from tests.prefixes import first_wrong
from tests.test_texts import LINES, TREE, text
from tests.writing import Row, some_tree
from tornentries.deeds import is_deed
from tornentries.errors import NoText
from tornentries.reader import read_deed, read_tree
from tornentries.reading import read
from tornentries.texts import show_deed, show_tree
from tornentries.trees import is_tree

KNOWN = (1, 2, 3, 4, 5, 6)
FEWER = ((), (5,), (1, 4), (5, 6), (1, 2, 3, 4, 6), (1, 2, 3))


class ReaderTest(unittest.TestCase):
    def refused(self, line, call, thing, **more):
        with self.assertRaises(NoText, msg=thing) as met:
            call(thing, **more)
        self.assertEqual(met.exception.line, line, thing)
        self.assertIs(type(met.exception.line), type(line))

    def no_tree(self, line, *lines, **more):
        self.refused(line, read_tree, text(*lines), **more)
        self.assertEqual(first_wrong(text(*lines), "order", **more), line)

    def no_deed(self, line, *lines):
        self.refused(line, read_deed, text(*lines))
        self.assertEqual(first_wrong(text(*lines), "deed"), line)

    def in_table(self, line, *lines, **more):
        """Refused by the line, counted from the first one in the first table."""
        self.no_tree(line + 2, "order small", "table", *lines, **more)


class ReadTreeTest(ReaderTest):
    def test_every_sort_of_line(self):
        for order in ("small", "great"):
            self.assertEqual(read_tree(text("order " + order, *LINES)), (order, (TREE,)))
        self.assertEqual(read_tree("order small\n"), ("small", ()))
        self.assertEqual(read_tree("order great\ntable\nend\ntable\nend\n"), ("great", ((), ())))

    def test_there_and_back(self):
        for start in range(60):
            row = Row(start)
            for tree in (some_tree(row), drawn_tree(row)):
                told = read_tree(show_tree(tree))
                self.assertEqual(told, tree)
                self.assertIs(is_tree(told), True)

    def test_for_fewer_known_kinds(self):
        for _, file in drawn_files(30):
            for known in FEWER:
                tree = read(file, known=known)
                told = read_tree(show_tree(tree, known=known), known=known)
                self.assertEqual(told, tree)
                self.assertIs(is_tree(told, known=known), True)

    def test_lines_of_kinds_that_are_not_known(self):
        for kind, lines in ((4, ["text 1 a"]), (5, ["chains 1", "end"]), (6, ["pieces 1", "end"])):
            rest = tuple([other for other in KNOWN if other != kind])
            self.in_table(0, *lines, "end", known=rest)
            self.in_table(0, *lines, "end", known=())
            raw = "entry 1 " + str(kind)
            self.in_table(0, raw, "end", known=KNOWN)
            self.in_table(0, raw, "end", known=(kind,))
            self.assertEqual(read_tree(text("order small", "table", raw, "end"), known=rest), ("small", (((1, kind, ()),),)))
        for kind, good, bad in ((1, "255", "256"), (2, "255 0", "256"), (3, "0 0 0 255", "1 2 3"), (4, "0 200", "256")):
            line = "entry 1 " + str(kind) + " "
            told = read_tree(text("order small", "table", line + good, "end"), known=())
            self.assertEqual(told[1][0][0][2], tuple([int(word) for word in good.split()]))
            self.in_table(0, line + bad, "end", known=())

    def test_what_is_no_text(self):
        for thing in ODD:
            if not isinstance(thing, str):
                self.refused(None, read_tree, thing)
                self.refused(None, read_tree, thing, known=())
        self.refused(None, read_tree, ["order small\n"])
        self.refused(None, read_tree, ("order small\n",))

    def test_the_first_line(self):
        self.no_tree(0)
        for line in ("", " ", "order", "order ", "order small ", " order small", "order  small", "Order small", "order Small",
                     "order smal", "order middle", "small", "table", "order small table", "order\nsmall", "put 0"):
            self.no_tree(0, line)
            self.no_tree(0, line, "table", "end")
        self.refused(0, read_tree, "")
        self.refused(0, read_tree, "order small")
        self.refused(0, read_tree, "\norder small\n")

    def test_ends(self):
        whole = text("order small", *LINES)
        lines = whole.split("\n")[:-1]
        for many in range(len(lines)):
            ahead = lines[:many]
            if many == 1:
                self.assertEqual(read_tree(text(*ahead)), ("small", ()))
            else:
                self.no_tree(many, *ahead)
            # The next line without its line end, or just a beginning of it, can't stand there either.
            for end in {len(lines[many]), 1, len(lines[many]) // 2} - {0}:
                self.refused(many, read_tree, text(*ahead) + lines[many][:end])
        self.assertEqual(read_tree(whole)[1], (TREE,))
        for rest in ("end", "done", "", "x", "entry 1 1 1", "order small", "table "):
            self.refused(len(lines), read_tree, whole + rest + "\n")
        self.refused(len(lines) + 1, read_tree, whole + "table\n")
        self.refused(len(lines), read_tree, whole + "table")
        self.refused(len(lines), read_tree, whole + " ")
        self.refused(len(lines), read_tree, whole + "\n")

    def test_numbers(self):
        for line in ("entry 01 1", "entry 00 1", "entry 1 01", "entry 1 1 01", "entry 1 1 00", "entry -1 1", "entry +1 1",
                     "entry 1 1 -1", "entry 1 1 1.0", "entry 1 1 a", "entry 1 1 1e1", "entry 1 1 1_0", "entry 65536 1", "entry 1 65536",
                     "entry 1 1 256", "entry 1 2 65536", "entry 1 3 4294967296", "entry 1 3 00000000001", "entry 1 3 12345678901",
                     "entry 12345678901 1", "entry 0000000001 1", "entry 1 1 1 ", "entry 1 1 ", "entry 1 ", "entry 1", "entry",
                     "entry ", "entry  1 1", "entry 1  1", "entry 1 1  1", " entry 1 1", "entry 1 7 1", "entry 1 8 1 2",
                     "entry 1 7 1 256", "entry 1 9 256", "entry 1 7 300 1", "entry\t1 1", "Entry 1 1", "entrys 1 1", "entry.1.1"):
            self.in_table(0, line, "end")
        for line, entry in (("entry 0 0", (0, 0, ())), ("entry 1 3 4294967295 0", (1, 3, (4294967295, 0))),
                            ("entry 65535 65535 255", (65535, 65535, (255,))), ("entry 10 7 0 10", (10, 7, (0, 10)))):
            self.assertEqual(read_tree(text("order great", "table", line, "end")), ("great", ((entry,),)))

    def test_signs(self):
        for line in ("text 1", "text", "text ", "text  ", "text 01 a", "text -1 a", "text 65536 a", "text 1 _", "text 1 a,b",
                     "text 1 a/b", "text 1\ta", " text 1 a", "text  1 a", "text a a", "Text 1 a", "text 1 {", "text 1 @", "text 1 ~"):
            self.in_table(0, line, "end")
        for signs in ("", " ", "  ", "a", " a", "a ", "1 2 3", "text 1 a", "end", "-.", "Az09"):
            tree = ("small", (((1, 4, signs),),))
            self.assertEqual(read_tree("order small\ntable\ntext 1 " + signs + "\nend\n"), tree)
        self.assertEqual(read_tree(text("order small", "table", "text 1 " + "a" * 300, "end"))[1][0][0][2], "a" * 300)
        self.in_table(0, "text 1 " + "a" * 301, "end")

    def test_how_many(self):
        for kind, most in ((1, 300), (2, 300), (3, 300), (7, 600), (8, 1200), (9, 300)):
            wide = most // 300
            line = f"entry 1 {kind}" + " 1" * most
            self.assertEqual(read_tree(text("order small", "table", line, "end"))[1][0][0][2], (1,) * most)
            self.in_table(0, line + " 1" * wide, "end")
            if wide > 1:
                self.in_table(0, f"entry 1 {kind}" + " 1" * (most - 1), "end")

    def test_tags_that_do_not_rise(self):
        for tags in ((1, 1), (2, 1), (0, 0), (65535, 65535), (65535, 65536), (3, 7, 7), (3, 7, 4), (3, 7, 0)):
            for form in (["entry {} 1"], ["text {} "], ["chains {}", "end"], ["pieces {}", "end"], ["entry {} 9"]):
                lines = [line.format(tag) for tag in tags[:-1] for line in form]
                self.in_table(len(lines), *lines, *[line.format(tags[-1]) for line in form], "end")
        # In another table they begin anew.
        lines = ["table", "entry 5 1", "chains 7", "chain", "table", "entry 3 1", "end", "done", "end", "end", "table", "entry 2 1", "end"]
        self.assertEqual(read_tree(text("order small", *lines)),
                         ("small", (((5, 1, ()), (7, 5, ((((3, 1, ()),),),))), ((2, 1, ()),))))
        self.no_tree(10, "order small", *lines[:9], "entry 7 1", "end")

    def test_forty_entries_and_ten_tables(self):
        entries = [f"entry {k} 1" for k in range(41)]
        self.assertEqual(len(read_tree(text("order small", "table", *entries[:40], "end"))[1][0]), 40)
        self.in_table(40, *entries, "end")
        self.in_table(40, *entries[:40], "chains 50", "end", "end")
        self.in_table(40, *entries[:40], "text 50 a", "end")
        tables = ["table", "end"] * 10
        self.assertEqual(len(read_tree(text("order small", *tables))[1]), 10)
        self.no_tree(21, "order small", *tables, "table", "end")
        inner = ["chains 3", "chain"] + tables
        self.assertEqual(len(read_tree(text("order small", "table", *inner, "done", "end", "end"))[1][0][0][2][0]), 10)
        self.in_table(22, *inner, "table", "end", "done", "end", "end")

    def test_three_hundred_chains_and_pieces(self):
        for head, lines, first in (("chains 1", ["chain", "done"], 601), ("pieces 1", ["piece"], 301)):
            told = read_tree(text("order small", "table", head, *lines * 300, "end", "end"))
            self.assertEqual(told[1][0][0][2], ((),) * 300)
            self.in_table(first, head, *lines * 301, "end", "end")
        piece = "piece" + " 1" * 300
        self.assertEqual(read_tree(text("order small", "table", "pieces 1", piece, "end", "end"))[1][0][0][2], ((1,) * 300,))
        self.in_table(2, "pieces 1", "piece 1", piece + " 1", "end", "end")
        for line in ("piece 256", "piece 01", "piece ", "piece  1", "piece 1 ", "piece -1", "pieces 1", "pice 1", "", "done", "chain"):
            self.in_table(2, "pieces 1", "piece 1", line, "end", "end")

    def test_depth(self):
        ahead, behind = [], []
        for deep in range(1, 5):
            ahead += ["table", "chains 1", "chain"]
            behind = ["done", "end", "end"] + behind
            tree = read_tree(text("order small", *ahead, *behind))
            self.assertIs(is_tree(tree), True)
            self.assertEqual(show_tree(tree), text("order small", *ahead, *behind))
        # The fourth chain's entry may have chains, but none with a table.
        self.no_tree(len(ahead) + 1, "order small", *ahead, "table", "end", *behind)
        self.no_tree(len(ahead) + 3, "order small", *ahead, "done", "chain", "table", "end", *behind)

    def test_lines_in_wrong_places(self):
        for line in ("done", "chain", "piece 1", "table", "order small", "", " ", "end ", " end", "endtable", "put 0", "x"):
            self.in_table(0, line)
            self.in_table(1, "entry 1 1", line)
            self.in_table(2, "chains 2", "end", line)
        for line in ("entry 1 1", "table", "done", "piece", "", "chain ", "text 1 a", "chain 0"):
            self.in_table(1, "chains 2", line)
        for line in ("entry 1 1", "chain", "end", "piece", "", "done ", "text 1 a", "table 0"):
            self.in_table(2, "chains 2", "chain", line)
            self.in_table(4, "chains 2", "chain", "table", "end", line)
        for line in ("entry 1 1", "end", "done", "chain", "piece", "", "text 1 a"):
            self.no_tree(1, "order small", line)
            self.no_tree(3, "order small", "table", "end", line)
        for line in ("chains", "chains ", "chains 1 ", "chains 1 1", "chains 01", "chains 65536", "chains -1", "chains a",
                     "pieces", "pieces 1 2", "pieces 65536", "pieces 1 ", "pieces  1"):
            self.in_table(0, line, "end", "end")


class ReadDeedTest(ReaderTest):
    def test_each_word(self):
        for lines, deed in (
            (["put 0", "entry 5 1 1 2"], ("put", (0,), (5, 1, (1, 2)))),
            (["put 0.1.2.3", "text 5 "], ("put", (0, 1, 2, 3), (5, 4, ""))),
            (["put 0", "entry 0 1"], ("put", (0,), (0, 1, ()))),
            (["change 9.65535.299.9.8.7.6.5.4.3", "chains 5", "chain", "done", "end"],
             ("change", (9, 65535, 299, 9, 8, 7, 6, 5, 4, 3), (5, 5, ((),)))),
            (["out 10 0"], ("out", (10,), 0)),
            (["share 0 5 1.2.3.4 6"], ("share", (0,), 5, (1, 2, 3, 4), 6)),
            (["piece 0 5 0"], ("piece", (0,), 5, 0, ())),
            (["piece 0 5 9999999999 1 255 0"], ("piece", (0,), 5, 9999999999, (1, 255, 0))),
            (["chain 0", "table", "end"], ("chain", (0,), ())),
            (["chain 1.99999.0.10", "table", "text 1  x ", "end"], ("chain", (1, 99999, 0, 10), ((1, 4, " x "),))),
            (["cut 0"], ("cut", (0,))),
        ):
            self.assertEqual(read_deed(text(*lines)), deed)
            self.assertEqual(show_deed(deed), text(*lines))
            self.assertIs(is_deed(deed), True)
            for many in range(len(lines)):
                self.no_deed(many, *lines[:many])
                self.refused(many, read_deed, text(*lines[:many]) + lines[many])
            for rest in ("end", "table", "", "cut 0", "entry 9 1"):
                self.no_deed(len(lines), *lines, rest)
                if rest:
                    self.refused(len(lines), read_deed, text(*lines) + rest)

    def test_there_and_back(self):
        met = {}
        for start in range(150):
            row = Row(start)
            deed = drawn_deed(row, drawn_tree(row))
            self.assertEqual(read_deed(show_deed(deed)), deed)
            met[deed[0]] = True
        self.assertEqual(len(met), 7)

    def test_what_is_no_text(self):
        for thing in ODD:
            if not isinstance(thing, str):
                self.refused(None, read_deed, thing)
        self.refused(None, read_deed, ["cut 0\n"])

    def test_the_first_line(self):
        self.no_deed(0)
        for line in ("", " ", "put", "put ", "put  0", "put 0 ", " put 0", "put 0 1", "Put 0", "put 0,1", "put 0.", "put .0", "put .",
                     "put 0.1", "put 0.1.2", "put 0.1.2.3.4", "put 0.1.2.3.4.5.6.7.8.9.10.11.12", "put 00", "put 01", "put 0.01.2.3",
                     "put -1", "put 12345678901", "put 0.1.2.12345678901", "put a", "change", "change 0.1", "change 0 0",
                     "out 0", "out 0 ", "out 0 65536", "out 0 01", "out 0 1 1", "out 0.1 1", "out 1", "out",
                     "share 0 1 0", "share 0 1 0 1 1", "share 0 1 0.1 1", "share 0 65536 0 1", "share 0 1 0 65536", "share 0 1 a 1",
                     "piece 0 1", "piece 0", "piece 0 1 ", "piece 0 1 0 ", "piece 0 1 0 256", "piece 0 1 -1", "piece 0 1 01",
                     "piece 0 65536 0", "piece 0 1 12345678901", "piece 0.1 1 0", "piece 0 1 0" + " 1" * 301, "piece",
                     "chain", "chain 0 0", "chain 0.1", "chains 0", "cut", "cut 0 0", "cut 0.1", "cut a", "cut 0.0.0.0.0",
                     "order small", "table", "entry 1 1", "end", "word 0 1 a"):
            self.no_deed(0, line)
            self.no_deed(0, line, "entry 1 1")
            self.no_deed(0, line, "table", "end")
        self.assertEqual(read_deed("piece 0 1 0" + " 1" * 300 + "\n")[4], (1,) * 300)

    def test_entries_of_known_kinds_alone(self):
        for line in ("entry 1 0", "entry 1 7", "entry 1 65535 1", "entry 1 4", "entry 1 5", "entry 1 6"):
            self.no_deed(1, "put 0", line)
            self.no_deed(1, "change 0", line)
            self.no_deed(2, "chain 0", "table", line, "end")
            self.no_deed(4, "put 0", "chains 1", "chain", "table", line, "end", "done", "end")
        for line in ("table", "end", "", "entry 1 1 256", "text 1 _", "done"):
            self.no_deed(1, "put 0", line)
        for line in ("end", "entry 1 1", "", "chain", "done"):
            self.no_deed(1, "chain 0", line)
        self.no_deed(3, "chain 0", "table", "entry 1 1", "entry 1 1", "end")
        self.no_deed(3, "put 0", "chains 1", "end", "end")

    def test_depth(self):
        ahead, behind = [], []
        for deep in range(1, 4):
            ahead += ["chains 1", "chain", "table"]
            behind = ["end", "done", "end"] + behind
            for path in ("0", "0.1.2.3", "0.1.2.3.4.5.6.7.8.9"):
                self.assertIs(is_deed(read_deed(text("put " + path, *ahead, *behind))), True)
                self.assertIs(is_deed(read_deed(text("chain " + path, "table", *ahead, *behind, "end"))), True)
        self.no_deed(len(ahead) + 3, "put 0", *ahead, "chains 1", "chain", "table", "end", "done", "end", *behind)
        self.no_deed(len(ahead) + 4, "chain 0", "table", *ahead, "chains 1", "chain", "table", "end", "done", "end", *behind)
        self.assertIs(is_deed(read_deed(text("put 0", *ahead, "chains 1", "chain", "done", "end", *behind))), True)


def otherwise(lines, row):
    """Texts of these lines, but for something: a line left out, twice, exchanged, with another sign and the like."""
    whole = text(*lines)
    for at, line in enumerate(lines):
        ahead, behind = lines[:at], lines[at + 1:]
        yield text(*ahead, *behind)
        yield text(*ahead, line, line, *behind)
        other = row.below(len(lines))
        exchanged = list(lines)
        exchanged[at], exchanged[other] = exchanged[other], exchanged[at]
        yield text(*exchanged)
        spot = row.below(len(line) + 1)
        for sign in (" ", "0", "9", "a", ".", "_", "\n", "", "-"):
            yield text(*ahead, line[:spot] + sign + line[spot:], *behind)
            yield text(*ahead, line[:spot] + sign + line[spot + 1:], *behind)
        for word in ("end", "done", "table", "chain", "piece 1", "entry 70 1 1", "text 70 a", "chains 70", "pieces 70"):
            yield text(*ahead, word, *lines[at:])
        yield text(*ahead) + line
    yield whole[:-1]
    yield whole + "\n"
    for _ in range(10):
        yield whole[:row.below(len(whole) + 1)]


class ManyTextsTest(ReaderTest):
    """Against what is told line by line in another way."""

    def check(self, thing, begin, call, show, **more):
        wrong = first_wrong(thing, begin, **more)
        if wrong is None:
            self.assertEqual(show(call(thing, **more), **more), thing)
            self.whole += 1
        else:
            self.refused(wrong, call, thing, **more)
            self.wrong[wrong] = True

    def setUp(self):
        self.whole = 0
        self.wrong = {}

    def test_trees(self):
        for at, (_, file) in enumerate(drawn_files(18)):
            known = ((KNOWN, KNOWN) + FEWER)[at % 8]
            lines = show_tree(read(file, known=known), known=known).split("\n")[:-1][:40]
            for thing in otherwise(lines, Row(at)):
                self.check(thing, "order", read_tree, show_tree, known=known)
        self.assertTrue(self.whole > 200 and len(self.wrong) > 30, (self.whole, len(self.wrong)))

    def test_deeds(self):
        for start in range(80):
            row = Row(900 + start)
            lines = show_deed(drawn_deed(row, drawn_tree(row))).split("\n")[:-1][:25]
            for thing in otherwise(lines, row):
                self.check(thing, "deed", read_deed, show_deed)
        self.assertTrue(self.whole > 200 and len(self.wrong) > 10, (self.whole, len(self.wrong)))
