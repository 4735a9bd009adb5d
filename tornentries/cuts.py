"""Strokes cut short, and whether strokes are those of a deed."""

from tornentries.cells import is_stroke, stroked
from tornentries.deeds import done
from tornentries.errors import Spoilt
from tornentries.fresh import fresh_cells
from tornentries.kinds import KNOWN
from tornentries.maps import unused_cells
from tornentries.reading import ROOT_CELL, read, reading_of


def torn(file, strokes, many):
    """The file stroked with the first so many of the strokes."""
    return stroked(file, strokes[:many])


def lets_strokes(file, deed, thing, *, known=KNOWN, kept=()):
    """Whether this is a list of strokes of the deed on the file, of anything."""
    if not isinstance(thing, list) or not all([is_stroke(stroke) for stroke in thing]):
        return False
    reading = reading_of(file, known)
    aim = done(reading.tree_read, deed, known=known)
    if aim == reading.tree_read or len(thing) == 0:
        return aim == reading.tree_read and len(thing) == 0
    if not _are_placed(reading, [cell for cell, _ in thing], {cell: True for cell in kept}):
        return False
    return _read_as(file, thing, known, reading.tree_read, aim)


def _are_placed(reading, cells, kept):
    """Whether strokes may be at these cells, the last one where the deed is seen."""
    free = {cell: True for cell in fresh_cells(reading) + unused_cells(reading)}
    if not all([cell in free and cell not in kept for cell in cells[:-1]]):
        return False
    return cells[-1] == ROOT_CELL or cells[-1] not in kept


def _read_as(file, strokes, known, tree, aim):
    """Whether the file reads as the tree behind each fewer of the strokes, and as the aim behind all."""
    for many in range(len(strokes)):
        if not _reads(torn(file, strokes, many), known, tree):
            return False
    return _reads(stroked(file, strokes), known, aim)


def _reads(file, known, tree):
    """Whether the file reads as the tree."""
    try:
        return read(file, known=known) == tree
    except Spoilt:
        return False
