"""Parts of trees laid into cells, which a store gives.

A store is asked `lay(sort, cells, size)`: it tells the first of the cells in which these then stand, side by side. Size
is how many numbers of them matter, from the first on.
"""

from tornentries.cells import CELL, cells_for
from tornentries.kinds import KNOWN, has_chains, has_pieces, width
from tornentries.numbers import written
from tornentries.reading import head_cells
from tornentries.sheet import ENTRY_CELLS, HEAD_CELLS
from tornentries.trees import MOST_ENTRIES
from tornentries.worths import packed

EMPTY = (0,) * CELL


class Row:
    """A store in which the cells stand one behind the other, from behind the head on."""

    def __init__(self):
        self.cells = []

    def lay(self, sort, cells, size):
        """Lays these cells behind the others."""
        first = HEAD_CELLS + len(self.cells)
        self.cells.extend(cells)
        return first


def file_of(order, root, cells):
    """The file with this root, and these cells behind the head."""
    return tuple([number for cell in list(head_cells(order, root)) + cells for number in cell])


class Laying:
    """Lays parts of a tree, what they lead to ahead of themselves; tables with so much unused room."""

    def __init__(self, order, store, room):
        self.order = order
        self.store = store
        self.room = room

    def pointer(self, cell):
        """The pointer to a cell."""
        return written(self.order, cell, CELL)

    def pair(self, one, other):
        """The cell of two numbers."""
        return written(self.order, one, 2) + written(self.order, other, 2)

    def chain(self, chain):
        """Lays the tables of a chain, the last one first; the first cell of the first one, or 0."""
        first = 0
        for table in reversed(chain):
            first = self.table(table, first)
        return first

    def table(self, table, following):
        """Lays a table, behind it the table at the cell following."""
        return self.rows([self.entry(entry) for entry in table], self.room, following)

    def rows(self, rows, unused, following):
        """Lays a table of entries that are given as their cells."""
        room = min(len(rows) + unused, MOST_ENTRIES)
        cells = [self.pair(len(rows), room)] + [cell for row in rows for cell in row]
        cells.extend([EMPTY] * (ENTRY_CELLS * (room - len(rows))))
        cells.append(self.pointer(following))
        return self.store.lay("table", cells, CELL * len(cells))

    def entry(self, entry):
        """The three cells of an entry, laid elsewhere what doesn't stand in them."""
        tag, kind, worths = entry
        return [self.pair(tag, kind), self.pointer(len(worths)), self.place(kind, worths)]

    def place(self, kind, worths):
        """The cell with the worths of an entry, or with the pointer to them."""
        sort = "worth"
        if has_chains(kind, KNOWN):
            sort = "chains"
            cells = [self.pointer(self.chain(chain)) for chain in worths]
        elif has_pieces(kind, KNOWN):
            sort = "pieces"
            cells = [self.pointer(self.piece(piece)) for piece in worths]
        else:
            cells = list(packed(self.order, kind, worths))
        if len(cells) <= 1:
            return cells[0] if cells else EMPTY
        return self.pointer(self.store.lay(sort, cells, width(kind) * len(worths)))

    def piece(self, piece):
        """Lays a piece; its first cell, or 0."""
        if len(piece) == 0:
            return 0
        cells = [self.pointer(len(piece))]
        filled = piece + (0,) * (CELL * cells_for(len(piece)) - len(piece))
        cells.extend([filled[at:at + CELL] for at in range(0, len(filled), CELL)])
        return self.store.lay("piece", cells, CELL + len(piece))
