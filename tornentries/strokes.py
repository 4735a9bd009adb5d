"""Deeds done on files by strokes, of which only the last one is seen."""

from tornentries.changing import Changing
from tornentries.deeds import done
from tornentries.kinds import KNOWN
from tornentries.reading import reading_of


def strokes_of(file, deed, *, known=KNOWN, kept=(), room=2):
    """The strokes of the deed on the file: none at a kept cell, but the last one may be at the head's pointer."""
    reading = reading_of(file, known)
    if done(reading.tree_read, deed, known=known) == reading.tree_read:
        return []
    changing = Changing(reading, {cell: True for cell in kept}, room)
    action = ACTIONS[deed[0]]
    action(changing, deed)
    return changing.fresh.strokes


def _put(changing, deed):
    _, path, entry = deed
    changing.insert_entry(path, entry[0], changing.laying.entry(entry))


def _change(changing, deed):
    _, path, entry = deed
    changing.replace_entry(path, entry[0], changing.laying.entry(entry))


def _out(changing, deed):
    _, path, tag = deed
    changing.leave_out(path, tag)


def _share(changing, deed):
    _, path, tag, start, other = deed
    changing.insert_entry(path, tag, changing.shared_cells(start, other, tag))


def _piece(changing, deed):
    _, path, tag, k, piece = deed
    changing.replace_piece(path, tag, k, changing.laying.piece(piece))


def _chain(changing, deed):
    _, path, table = deed
    changing.insert_table(path, table)


def _cut(changing, deed):
    _, path = deed
    changing.leave_table(path)


ACTIONS = {
    "put": _put,
    "change": _change,
    "out": _out,
    "share": _share,
    "piece": _piece,
    "chain": _chain,
    "cut": _cut,
}
