"""The cells of a file, as one takes them who knows its order: what stands in them, and why it can't."""

from tornentries.cells import CELL, cell_of, cells_for
from tornentries.kinds import has_chains, has_pieces, has_text, sign_of, width
from tornentries.numbers import number_in
from tornentries.trees import MOST_ENTRIES
from tornentries.worths import MOST_WORTHS, unpacked

HEAD_CELLS = 2
ENTRY_CELLS = 3


def table_cells(room):
    """How many cells a table with this room stands in."""
    return 2 + ENTRY_CELLS * room


class Sheet:
    """The cells of a file, for some known kinds. An entry is told by its first cell, worths and pieces by theirs."""

    def __init__(self, file, order, known):
        self.numbers = file
        self.order = order
        self.known = known

    def length(self):
        """How many cells the file has."""
        return len(self.numbers) // CELL

    def number_at(self, cell):
        """The number that is written in the cell."""
        return number_in(self.order, cell_of(self.numbers, cell))

    def pair_at(self, cell):
        """The two numbers that are written in the cell."""
        numbers = cell_of(self.numbers, cell)
        return number_in(self.order, numbers[:2]), number_in(self.order, numbers[2:])

    def is_inside(self, first, many):
        """Whether so many cells from the first on are behind the head and in the file."""
        return first >= HEAD_CELLS and CELL * (first + many) <= len(self.numbers)

    def fault_of(self, sort, first, many):
        """Why cells of a sort can't be these, or None."""
        return None if self.is_inside(first, many) else "beyond"

    def fault_of_start(self, first):
        """Why no table can begin at this cell, by the cell alone, or None."""
        if not self.is_inside(first, 1):
            return "beyond"
        many, room = self.pair_at(first)
        return None if many <= room <= MOST_ENTRIES else "room"

    def sort_of(self, kind):
        """The sort of the cells elsewhere that worths of the kind, or pointers to them, stand in."""
        if has_chains(kind, self.known):
            return "chains"
        if has_pieces(kind, self.known):
            return "pieces"
        return "worth"

    def place_of(self, cell):
        """The first cell of the worths of the entry that stands from the cell on: its last one, or where that leads."""
        _, kind = self.pair_at(cell)
        if self.number_at(cell + 1) * width(kind) <= CELL:
            return cell + 2
        return self.number_at(cell + 2)

    def fault_of_worths(self, place, kind, count):
        """Why there can't be so many worths of the kind, or None."""
        if count > MOST_WORTHS:
            return "many"
        size = count * width(kind)
        why = self.fault_of(self.sort_of(kind), place, cells_for(size)) if size > CELL else None
        if why is None and has_text(kind, self.known):
            signs = self.numbers[CELL * place:CELL * place + count]
            if not all([sign_of(sign) is not None for sign in signs]):
                return "sign"
        return why

    def plain(self, place, kind, count):
        """Worths of the kinds 1 to 4, and raw ones."""
        cells = [cell_of(self.numbers, place + k) for k in range(cells_for(count * width(kind)))]
        return unpacked(self.order, kind, count, cells, known=self.known)

    def pointers(self, place, count):
        """So many pointers, one a cell."""
        return [self.number_at(place + k) for k in range(count)]

    def fault_of_piece(self, first):
        """Why there can't be a piece, or None."""
        if not self.is_inside(first, 1):
            return "beyond"
        many = self.number_at(first)
        if many > MOST_WORTHS:
            return "many"
        return self.fault_of("piece", first, 1 + cells_for(many))

    def piece_at(self, first):
        """The numbers of the piece."""
        start = CELL * (first + 1)
        return tuple(self.numbers[start:start + self.number_at(first)])
