"""Least files: with all that is alike laid once."""

from tornentries.cells import CELL, cells_for, is_file
from tornentries.errors import Raw, Spoilt
from tornentries.kinds import KNOWN, has_chains, has_pieces, width
from tornentries.laying import Laying, Row
from tornentries.making import file_within, refuse_raw
from tornentries.reading import SHARED, read
from tornentries.sheet import HEAD_CELLS
from tornentries.trees import entries_within
from tornentries.worths import packed


def needed(tree):
    """How many cells the tree needs."""
    return HEAD_CELLS + len(_laid(tree)[1])


def least(tree):
    """A file that reads as the tree, of just so many cells."""
    root, cells = _laid(tree)
    return file_within(tree[0], root, cells)


def is_least(file):
    """Whether this is a least file of what it reads as, of anything."""
    if not is_file(file):
        return False
    try:
        return CELL * needed(read(file)) == len(file)
    except (Spoilt, Raw):
        return False


def _laid(tree):
    """The root, and the cells behind the head, of a least file."""
    refuse_raw(tree, KNOWN)
    order, chain = tree
    store = SharingRow()
    for cells, size in _worths_elsewhere(order, chain):
        store.lay("worth", cells, size)
    root = Laying(order, store, 0).chain(chain)
    return root, store.row.cells


def _worths_elsewhere(order, chain):
    """The worths that don't stand in their entries, each as its cells and its size.

    The longest come first, so that a beginning of others is asked for behind these.
    """
    found = []
    for _, entry in entries_within(chain, (), KNOWN):
        _, kind, worths = entry
        size = width(kind) * len(worths)
        if size > CELL and not has_chains(kind, KNOWN) and not has_pieces(kind, KNOWN):
            found.append((list(packed(order, kind, worths)), size))
    return sorted(found, key=lambda worth: worth[1], reverse=True)


class SharingRow:
    """A store that lays what is alike once: the same numbers, or the beginning of others of as many cells."""

    def __init__(self):
        self.row = Row()
        self.firsts = {}

    def lay(self, sort, cells, size):
        """Lays these cells, or finds them."""
        if sort not in SHARED:
            return self.row.lay(sort, cells, size)
        numbers = [number for cell in cells for number in cell][:size]
        if (sort, tuple(numbers)) not in self.firsts:
            first = self.row.lay(sort, cells, size)
            for shorter in range(CELL * (cells_for(size) - 1) + 1, size + 1):
                self.firsts[(sort, tuple(numbers[:shorter]))] = first
        return self.firsts[(sort, tuple(numbers))]
