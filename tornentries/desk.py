"""A desk: keeps a shelf, and answers lines of words."""

from tornentries.errors import NoLine, NoText, NoWay
from tornentries.kinds import KNOWN, TEXT, has_chains, has_pieces, has_text, is_sign
from tornentries.machine import gone
from tornentries.maps import map_of
from tornentries.reading import LOST
from tornentries.shelf import Shelf
from tornentries.texts import show_tree
from tornentries.trees import MOST_TABLES, is_path
from tornentries.ways import way_to
from tornentries.words import number_of, path_of, words_of

# What the words behind the first one are. Behind those of put and set stand any more numbers; that of show may be left
# out.
LINES = {
    "put": ("path", "number", "kind"),
    "word": ("path", "number", "word"),
    "set": ("path", "number", "kind"),
    "out": ("path", "number"),
    "cut": ("path",),
    "table": ("path",),
    "enter": (),
    "leave": ("number",),
    "show": ("number",),
    "get": ("path", "number"),
    "cells": (),
    "pack": (),
    "map": (),
}
KINDS = ("1", "2", "3")


class Desk:
    """Keeps a shelf with this file."""

    def __init__(self, file):
        self.shelf = Shelf(file)

    def say(self, line):
        """The answer to the line."""
        word, parts = _heard(line)
        action = ACTIONS[word]
        return action(self.shelf, parts)


def _heard(line):
    """The first word of a line, and what the others write, of anything."""
    if not isinstance(line, str):
        raise NoLine()
    words = line.split(" ")
    word = words.pop(0)
    if word not in LINES or not _may_be_so_many(word, len(words)):
        raise NoLine()
    sorts = LINES[word] + ("number",) * len(words)
    parts = [_part_of(sort, written) for sort, written in zip(sorts, words)]
    if None in parts:
        raise NoText(None)
    return word, parts


def _may_be_so_many(word, many):
    """Whether so many words may stand behind the first one."""
    if word in ("put", "set"):
        return many >= len(LINES[word])
    return many == len(LINES[word]) or (word == "show" and many == 0)


def _part_of(sort, word):
    """What the word writes, or None."""
    if sort == "path":
        return path_of(word)
    if sort == "word":
        return word if all([is_sign(sign) for sign in word]) else None
    if sort == "kind" and word not in KINDS:
        return None
    return number_of(word)


# Each of these answers a line, told what its words behind the first one write.


def _done(shelf, deed):
    return f"ok {shelf.do(deed)}"


def _put(shelf, parts):
    path, tag, kind = parts[:3]
    return _done(shelf, ("put", path, (tag, kind, tuple(parts[3:]))))


def _word(shelf, parts):
    path, tag, text = parts
    return _done(shelf, ("put", path, (tag, TEXT, text)))


def _set(shelf, parts):
    path, tag, kind = parts[:3]
    return _done(shelf, ("change", path, (tag, kind, tuple(parts[3:]))))


def _out(shelf, parts):
    path, tag = parts
    return _done(shelf, ("out", path, tag))


def _cut(shelf, parts):
    return _done(shelf, ("cut", parts[0]))


def _table(shelf, parts):
    return _done(shelf, ("chain", parts[0], ()))


def _enter(shelf, _):
    return str(shelf.enter())


def _leave(shelf, parts):
    shelf.leave(parts[0])
    return "ok"


def _show(shelf, parts):
    tree = shelf.tree() if len(parts) == 0 else shelf.read(parts[0])
    return show_tree(tree).replace("\n", "/")


def _get(shelf, parts):
    path, tag = parts
    # No chain that was read has more tables, so there's no need to go on and on along one.
    if not is_path(path) or max(path[::3]) > MOST_TABLES:
        return "-"
    try:
        told = gone(shelf.file(), way_to(path, tag))
    except NoWay:
        return "-"
    return "-" if told[0] == LOST else _found(told[1], told[2])


def _found(kind, worths):
    """The words of what the machine found, of chains how many there are."""
    if has_text(kind, KNOWN) or has_chains(kind, KNOWN):
        return f"{kind} {worths}"
    if has_pieces(kind, KNOWN):
        return words_of([kind] + [_piece_word(piece) for piece in worths])
    return words_of((kind,) + worths)


def _piece_word(piece):
    return "." if len(piece) == 0 else ",".join([str(number) for number in piece])


def _cells(shelf, _):
    return f"{len(shelf)} {shelf.spare()}"


def _pack(shelf, _):
    shelf.pack()
    return "ok"


def _stretches(shelf, _):
    return words_of([f"{first}:{many}:{sort}" for first, many, sort, _ in map_of(shelf.file())])


ACTIONS = {
    "put": _put,
    "word": _word,
    "set": _set,
    "out": _out,
    "cut": _cut,
    "table": _table,
    "enter": _enter,
    "leave": _leave,
    "show": _show,
    "get": _get,
    "cells": _cells,
    "pack": _pack,
    "map": _stretches,
}
