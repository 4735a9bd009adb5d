import unittest

from tests.building import ODD, ORDERS, laid, piece, pointer, pointers, table
from tests.deedmaking import paths_in, table_of
from tests.drawing import drawn_files
from tests.writing import Row
from tornentries.desk import Desk
from tornentries.errors import (NoDeed, NoLine, NoReader, NoTable, NoTag, NoText, Raw, Spoilt, Taken, TooGreat, TooMany, TornError)
from tornentries.machine import gone
from tornentries.making import made
from tornentries.maps import map_of
from tornentries.shelf import Shelf
from tornentries.texts import show_tree
from tornentries.ways import way_to

CHAIN = (((1, 1, (1, 2)), (2, 4, " some text "), (3, 5, ((((7, 2, (9,)),),), ())), (4, 6, ((1, 2), (), (3,)))), ())
ASKING = ("show", "cells", "map", "get 0 1", "get 0 2", "get 0 3", "get 0 4", "get 0.3.0.0 7")


class DeskTest(unittest.TestCase):
    def told(self, desk):
        answers = [desk.say(line) for line in ASKING]
        for number in range(1, 9):
            try:
                answers.append(desk.say(f"show {number}"))
            except NoReader:
                answers.append(None)
        return answers

    def refused(self, desk, words, error, **fields):
        elder = self.told(desk)
        with self.assertRaises(error, msg=words) as met:
            desk.say(words)
        self.assertIs(type(met.exception), error, words)
        self.assertEqual(vars(met.exception), fields, words)
        self.assertEqual(self.told(desk), elder)

    def no_text(self, desk, *lines):
        for line in lines:
            self.refused(desk, line, NoText, line=None)

    def no_line(self, desk, *lines):
        for line in lines:
            self.refused(desk, line, NoLine)

    def beside(self, file, pairs):
        """Says lines to a desk, beside deeds that are done on a shelf."""
        desk, shelf = Desk(file), Shelf(file)
        for line, deed in pairs:
            self.assertEqual(desk.say(line), f"ok {shelf.do(deed)}", line)
            self.assertEqual(desk.say("show"), show_tree(shelf.tree()).replace("\n", "/"))
            self.assertEqual(desk.say("cells"), f"{len(shelf)} {shelf.spare()}")
        return desk


class DeedLinesTest(DeskTest):
    def test_each(self):
        for order in ORDERS:
            self.beside(made((order, CHAIN)), (
                ("put 0 9 1", ("put", (0,), (9, 1, ()))),
                ("put 0 8 1 255", ("put", (0,), (8, 1, (255,)))),
                ("put 1 0 2 65535 0 7", ("put", (1,), (0, 2, (65535, 0, 7)))),
                ("put 1 65535 3 4294967295", ("put", (1,), (65535, 3, (4294967295,)))),
                ("put 0.3.0.0 8 3 1 2 3", ("put", (0, 3, 0, 0), (8, 3, (1, 2, 3)))),
                ("word 0 10 abc", ("put", (0,), (10, 4, "abc"))),
                ("word 0 11 ", ("put", (0,), (11, 4, ""))),
                ("word 0.3.0.0 12 a-1.Z", ("put", (0, 3, 0, 0), (12, 4, "a-1.Z"))),
                ("set 0 1 1 2 1", ("change", (0,), (1, 1, (2, 1)))),
                ("set 0 2 3", ("change", (0,), (2, 3, ()))),
                ("set 0 4 2 5 6 7", ("change", (0,), (4, 2, (5, 6, 7)))),
                ("table 2", ("chain", (2,), ())),
                ("table 0.3.1.0", ("chain", (0, 3, 1, 0), ())),
                ("out 0.3.0.0 7", ("out", (0, 3, 0, 0), 7)),
                ("cut 0.3.0.0", ("cut", (0, 3, 0, 0))),
                ("out 0 8", ("out", (0,), 8)),
                ("set 0 2 3", ("change", (0,), (2, 3, ()))),
                ("cut 2", ("cut", (2,))),
                ("cut 0", ("cut", (0,))),
                ("table 0", ("chain", (0,), ())),
            ))

    def test_three_hundred_worths(self):
        file = made(("small", CHAIN))
        numbers = " 7" * 300
        self.beside(file, ((f"put 1 1 1{numbers}", ("put", (1,), (1, 1, (7,) * 300))),
                           (f"word 1 2 {'a' * 300}", ("put", (1,), (2, 4, "a" * 300)))))
        self.refused(Desk(file), f"put 1 1 1{numbers} 7", NoDeed)
        self.refused(Desk(file), f"word 1 2 {'a' * 301}", NoDeed)

    def test_refused_as_the_stages_refuse(self):
        desk = Desk(made(("small", CHAIN + (tuple([(tag, 1, ()) for tag in range(40)]),))))
        for line in ("put 0.1 9 1", "out 0.1 9", "cut 0.1.2", "table 0.0.0.0.0", "put 0 65536 1", "put 0 9 1 256", "put 0 9 2 65536",
                     "put 0 9 3 4294967296", "set 0 65536 1", "set 0 1 1 256", "out 0 65536", "word 0 65536 a",
                     "put 0.0.0.0.0.0.0.0.0.0.0.0.0 1 1"):
            self.refused(desk, line, NoDeed)
        for line, path in (("put 3 9 1", (3,)), ("set 9 9 1", (9,)), ("word 0.3.1.0 9 a", (0, 3, 1, 0)), ("out 5 1", (5,)),
                           ("cut 3", (3,)), ("table 4", (4,)), ("table 0.3.2.0", (0, 3, 2, 0)), ("cut 9999999999", (9999999999,))):
            self.refused(desk, line, NoTable, path=path)
        self.refused(desk, "set 0 9 1 1", NoTag, tag=9)
        self.refused(desk, "out 1 9", NoTag, tag=9)
        self.refused(desk, "put 0 1 1 1", Taken, tag=1)
        self.refused(desk, "word 0 4 a", Taken, tag=4)
        self.refused(desk, "put 2 99 1", TooMany)
        for k in range(7):
            desk.say("table 0")
        self.refused(desk, "table 0", TooMany)
        self.refused(desk, "table 10", TooMany)

    def test_too_great(self):
        desk = Desk(made(("great", ((),))))
        line = "put 0 {} 3" + " 4294967295" * 300
        for tag in (1, 2, 3):
            self.assertEqual(desk.say(line.format(tag))[:4], "ok 3")
        self.refused(desk, line.format(4), TooGreat)


class ReaderLinesTest(DeskTest):
    def test_by_turns(self):
        for order in ORDERS:
            desk = Desk(made((order, CHAIN)))
            first = desk.say("show")
            self.assertEqual(first, show_tree((order, CHAIN)).replace("\n", "/"))
            self.assertEqual([desk.say("enter"), desk.say("enter")], ["1", "2"])
            desk.say("cut 0")
            self.assertEqual(desk.say("enter"), "3")
            self.assertEqual(desk.say("show"), "order " + order + "/table/end/")
            self.assertEqual([desk.say("show 1"), desk.say("show 2"), desk.say("show 3")], [first, first, desk.say("show")])
            self.assertEqual(desk.say("leave 2"), "ok")
            for line in ("leave 2", "show 2"):
                self.refused(desk, line, NoReader, number=2)
            for line in ("leave 0", "show 0"):
                self.refused(desk, line, NoReader, number=0)
            for line in ("leave 9999999999", "show 9999999999"):
                self.refused(desk, line, NoReader, number=9999999999)
            self.assertEqual(desk.say("enter"), "4")
            with self.assertRaises(TornError):
                desk.say("pack")
            for number in (1, 3, 4):
                self.assertEqual(desk.say(f"leave {number}"), "ok")
            self.assertEqual(desk.say("pack"), "ok")
            self.assertEqual(desk.say("cells"), "4 0")
            self.assertEqual(desk.say("enter"), "5")

    def test_a_text_with_blanks(self):
        desk = Desk(made(("small", CHAIN)))
        self.assertEqual(desk.say("show"), "order small/table/entry 1 1 1 2/text 2  some text /chains 3/chain/table/entry 7 2 9/end/"
                                           "done/chain/done/end/pieces 4/piece 1 2/piece/piece 3/end/end/table/end/")


class AskingLinesTest(DeskTest):
    def test_get_of_each_kind(self):
        for order in ORDERS:
            file = laid(order, 3, {
                3: table(order, 12, [
                    (0, 1, 3, (9, 8, 0, 171)), (1, 1, 0, 50), (3, 3, 1, pointer(order, 4294967295)), (4, 4, 0, 77),
                    (5, 4, 5, 56), (6, 5, 2, 58), (7, 5, 0, 999), (8, 6, 3, 60), (9, 6, 0, 64), (10, 7, 2, (1, 2, 3, 4)),
                    (11, 8, 0, (1, 2, 3, 4)), (65535, 65535, 5, 56)]),
                56: (32, 45, 32, 32, 46, 0, 0, 0), 58: pointers(order, 0, 80),
                60: pointers(order, 64, 0, 66), 64: piece(order, (1, 2, 30)), 66: piece(order, (255,)),
                80: table(order, 1, [(5, 2, 2, (1, 1, 1, 0) if order == "small" else (1, 1, 0, 1))])}, cells=100)
            desk = Desk(file)
            for tag, told in ((0, "1 9 8 0"), (1, "1"), (3, "3 4294967295"), (4, "4 "), (5, "4  -  ."), (6, "5 2"), (7, "5 0"),
                              (8, "6 1,2,30 . 255"), (9, "6"), (10, "7 1 2 3 4"), (11, "8"), (65535, "65535 32 45 32 32 46"),
                              (2, "-"), (12, "-"), (65536, "-"), (9999999999, "-")):
                self.assertEqual(desk.say(f"get 0 {tag}"), told, tag)
            self.assertEqual(desk.say("get 0.6.1.0 5"), "2 257 1")
            for line in ("get 1 0", "get 0.6.0.0 5", "get 0.6.2.0 5", "get 0.6.300.0 5", "get 0.6.9999999999.0 5", "get 0.5.0.0 5",
                         "get 0.7.0.0 5", "get 0.6.1.1 5", "get 0.6.1.0 6", "get 0.10.0.0 5", "get 0.65536.0.0 5",
                         "get 0.9999999999.0.0 5", "get 9999999999 5", "get 11 5", "get 10 5", "get 0.6.1.9999999999 5",
                         "get 0.6 5", "get 0.6.1 5", "get 0.6.1.0.5 5", "get 0.6.1.0.5.0.0.5.0.0.5.0.0 5", "get 0.0 0"):
                self.assertEqual(desk.say(line), "-", line)

    def test_get_as_the_machine_finds(self):
        for _, file in drawn_files(15):
            desk = Desk(file)
            tree = Shelf(file).tree()
            for path in paths_in(tree[1]) + [(9,)]:
                word = ".".join([str(number) for number in path])
                for tag in [entry[0] for entry in table_of(tree, path)] + [4] if path != (9,) else [4]:
                    told = gone(file, way_to(path, tag))
                    answer = desk.say(f"get {word} {tag}")
                    self.assertEqual(answer == "-", told[0] == "lost")
                    if told[0] == "found":
                        self.assertEqual(int(answer.split(" ")[0]), told[1])
                        self.check_worths(answer.partition(" ")[2], *told[1:])

    def check_worths(self, words, kind, worths):
        if kind == 4:
            self.assertEqual(words, worths)
        elif kind == 5:
            self.assertEqual(words, str(worths))
        elif kind == 6:
            told = [() if word == "." else tuple([int(number) for number in word.split(",")]) for word in words.split()]
            self.assertEqual(tuple(told), worths)
        else:
            self.assertEqual(tuple([int(word) for word in words.split()]), worths)

    def test_cells_and_map(self):
        for order in ORDERS:
            file = laid(order, 3, {3: table(order, 1, [(1, 4, 5, 10)]), 10: (65,) * 8, 13: table(order, 0, [])}, cells=20)
            desk = Desk(file)
            self.assertEqual(desk.say("cells"), "20 11")
            self.assertEqual(desk.say("map"), "0:2:head 2:1:spare 3:5:table 8:2:spare 10:2:worth 12:8:spare")
            self.assertEqual(desk.say("enter"), "1")
            desk.say("cut 0")
            self.assertEqual(desk.say("cells"), "20 11")
            self.assertEqual(desk.say("map"), "0:2:head 2:18:spare")
            desk.say("leave 1")
            self.assertEqual(desk.say("cells"), "20 18")
            self.assertEqual(desk.say("pack"), "ok")
            self.assertEqual(desk.say("cells"), "2 0")
            self.assertEqual(desk.say("map"), "0:2:head")
        for _, file in drawn_files(10):
            told = [":".join([str(part) for part in stretch[:3]]) for stretch in map_of(file)]
            self.assertEqual(Desk(file).say("map").split(" "), told)

    def test_pack_of_raw_entries(self):
        file = laid("small", 2, {2: table("small", 1, [(1, 7, 1, (1, 2, 3, 4))])}, cells=10)
        desk = Desk(file)
        self.assertEqual(desk.say("map"), "0:2:head 2:5:table 7:3:unsure")
        self.assertEqual(desk.say("cells"), "10 3")
        self.refused(desk, "pack", Raw, path=(0,), tag=1)

    def test_spoilt(self):
        with self.assertRaises(Spoilt):
            Desk(())
        with self.assertRaises(Spoilt):
            Desk(laid("small", 9, {}))


class WrongLinesTest(DeskTest):
    def setUp(self):
        self.desk = Desk(made(("small", CHAIN)))
        self.desk.say("enter")

    def test_what_is_no_text(self):
        for thing in ODD:
            if not isinstance(thing, str):
                self.no_line(self.desk, thing)
        self.no_line(self.desk, ["enter"], ("enter",), {"enter": True})

    def test_first_words(self):
        self.no_line(self.desk, "", " ", "  ", "x", "Enter", "enters", " enter", "put", "puts 0 1 1", "chain 0", "change 0 1 1", "read 1",
                     "share 0 9 0 1", "piece 0 4 0", "order small", "enter\n", "\nenter", "show\n", "gone", "sets 0 1 1", "get0 1")

    def test_too_few_and_too_many(self):
        self.no_line(self.desk, "put", "put 0", "put 0 9", "set", "set 0", "set 0 1", "word", "word 0", "word 0 9", "word 0 9 a b",
                     "word 0 9  ", "out", "out 0", "out 0 1 1", "out 0 1 ", "cut", "cut 0 0", "cut 0 ", "table", "table 0 0", "enter 1",
                     "enter ", "leave", "leave 1 1", "leave 1 ", "show 1 1", "show 1 ", "get", "get 0", "get 0 1 1", "get 0 1 ", "cells 1",
                     "cells ", "pack 0", "pack ", "map 0", "map ")
        # How many words there are goes ahead of how they are written.
        self.no_line(self.desk, "put x", "put x y", "out x y z", "cut x y", "leave x y", "get x", "word x y", "word x y z z")

    def test_paths(self):
        for path in ("", ".", "0.", ".0", "0..0.0", "x", "00", "01", "0.01.0.0", "-1", "+1", "0,0", "12345678901", "0.12345678901.0.0",
                     "1e1", "0.a", "(0,)"):
            self.no_text(self.desk, f"put {path} 9 1", f"word {path} 9 a", f"set {path} 1 1", f"out {path} 1", f"cut {path}",
                         f"table {path}", f"get {path} 1")

    def test_numbers(self):
        for number in ("", "x", "00", "01", "-1", "+1", "1.0", "12345678901", "0000000001", "1e1", "1_0", ".", "a", "0x1"):
            self.no_text(self.desk, f"put 0 {number} 1", f"put 0 9 1 {number}", f"put 0 9 1 1 {number} 1", f"word 0 {number} a",
                         f"set 0 {number} 1 1", f"set 0 1 1 {number}", f"out 0 {number}", f"leave {number}", f"show {number}",
                         f"get 0 {number}")
        self.no_text(self.desk, "leave ", "show ", "put 0  1", "put  9 1", "put 0 9  1", "put 0 9 1 ", "put 0 9 1  1", "out 0 ", "out  1",
                     "cut ", "table ", "get 0 ", "get  1", "set 0 1 1 ", "word 0  a", "word  9 a")

    def test_kinds_and_words(self):
        for kind in ("0", "4", "5", "6", "7", "", "01", "1.", "x", "11", "12", "-1", "65535"):
            self.no_text(self.desk, f"put 0 9 {kind}", f"put 0 9 {kind} 1", f"set 0 1 {kind}", f"set 0 1 {kind} 1 2")
        for word in ("_", "a_", "a,b", "a/b", "~", "!", "a\n", "a\tb", "@", "[", "`", "{", "a:b"):
            self.no_text(self.desk, f"word 0 9 {word}", f"word 9 9 {word}", f"word 0 1 {word}")

    def test_how_it_is_written_goes_ahead_of_what_the_stages_refuse(self):
        self.no_text(self.desk, "put 9 9 4", "put 9 65536 1 x", "put 0.1 9 1 x", "out 9 x", "out 0.1 x", "get 0.1 x", "get x 65536",
                     "set 9 1 0", "word 9 65536 _", "put 0 9 1 256 x")
        self.refused(self.desk, "leave 2", NoReader, number=2)
        self.refused(self.desk, "put 0 9 1 256", NoDeed)

    def test_many(self):
        met = {}
        row = Row(9)
        words = ("put", "word", "set", "out", "cut", "table", "enter", "leave", "show", "get", "cells", "pack", "map",
                 "0", "1", "9", "0.3.0.0", "x", "", "4", "abc", "256", "65536", "0.1")
        for _ in range(1500):
            line = " ".join([words[row.below(13)]] + [words[13 + row.below(11)] for _ in range(row.below(5))])
            shelf = self.desk.shelf.twin()
            try:
                answer = self.desk.say(line)
                self.assertIs(type(answer), str)
                met["answer"] = True
            except (TornError, NoReader) as error:
                met[type(error).__name__] = True
                self.assertEqual(self.desk.shelf.file(), shelf.file())
                self.assertEqual(self.desk.shelf.readers(), shelf.readers())
                self.assertEqual(self.desk.shelf.twin().enter(), shelf.enter())
            if len(self.desk.shelf) > 150:
                self.desk = Desk(made(("great", CHAIN)))
        self.assertTrue(set(met) >= {"answer", "NoLine", "NoText", "NoDeed", "NoTable", "NoTag", "NoReader", "Busy", "Taken"}, met)
