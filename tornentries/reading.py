"""Files read: from the head on, table by table, into a tree."""

from tornentries.cells import CELL, cell_of, cells_for
from tornentries.errors import Spoilt
from tornentries.kinds import KNOWN, PIECES, TABLES, TEXT, sign_of, width
from tornentries.numbers import number_in, written
from tornentries.trees import MOST_DEEP, MOST_ENTRIES, MOST_TABLES
from tornentries.worths import MOST_WORTHS, unpacked

HEAD_CELLS = 2
HEAD_NUMBER = 2028
HEAD_MARKS = (("small", 60), ("great", 62))
ENTRY_CELLS = 3

# Sorts of cells that may be used by others of the same sort; tables and lists of chains may not.
SHARED = ("worth", "pieces", "piece")


def head_of(file):
    """The order of the file, and the pointer to its first table."""
    for order, mark in HEAD_MARKS:
        first = (mark, mark) + written(order, HEAD_NUMBER, 2)
        if len(file) >= CELL * HEAD_CELLS and cell_of(file, 0) == first:
            return order, number_in(order, cell_of(file, 1))
    raise Spoilt("head", (), None)


def read(file, *, known=KNOWN, root=None):
    """The tree of the file, from the root in its head or from another one."""
    order, first = head_of(file)
    reading = Reading(file, order, known)
    return order, reading.chain(first if root is None else root, (), ())


def table_cells(room):
    """How many cells a table with this room stands in."""
    return 2 + ENTRY_CELLS * room


class Reading:
    """One reading of a file, and who holds each cell of it so far.

    A path leads to a table; within are the first cells of the tables that a table stands in.
    """

    def __init__(self, file, order, known):
        self.numbers = file
        self.order = order
        self.known = known
        self.held = {}

    def number_at(self, cell):
        """The number that is written in the cell."""
        return number_in(self.order, cell_of(self.numbers, cell))

    def pair_at(self, cell):
        """The two numbers that are written in the cell."""
        numbers = cell_of(self.numbers, cell)
        return number_in(self.order, numbers[:2]), number_in(self.order, numbers[2:])

    def is_inside(self, first, many):
        """Whether so many cells from the first on are behind the head and in the file."""
        return first >= HEAD_CELLS and CELL * (first + many) <= len(self.numbers)

    def fault_of(self, sort, first, many):
        """Why cells can't be held, or None."""
        if not self.is_inside(first, many):
            return "beyond"
        holders = [self.held.get(cell) for cell in range(first, first + many)]
        fitting = (None, (sort, first, many)) if sort in SHARED else (None,)
        if not all([holder in fitting for holder in holders]):
            return "crossed"
        return None

    def hold(self, sort, first, many):
        """Notes that these cells are held together."""
        for cell in range(first, first + many):
            self.held[cell] = (sort, first, many)

    def chain(self, pointer, start, within):
        """The chain to which the pointer leads; start with a number behind it is the path of a table."""
        tables = []
        firsts = []
        while pointer != 0:
            path = start + (len(tables),)
            why = self.fault_of_table(pointer, firsts, within)
            if why is not None:
                raise Spoilt(why, path, None)
            many, room = self.pair_at(pointer)
            self.hold("table", pointer, table_cells(room))
            tables.append(self.entries(pointer, many, path, within + (pointer,)))
            firsts.append(pointer)
            pointer = self.number_at(pointer + table_cells(room) - 1)
        return tuple(tables)

    def fault_of_table(self, first, ahead, within):
        """Why there can't be a table behind those ahead in its chain, or None."""
        if first in ahead or first in within:
            return "ring"
        if not self.is_inside(first, 1):
            return "beyond"
        many, room = self.pair_at(first)
        if many > room or room > MOST_ENTRIES:
            return "room"
        why = self.fault_of("table", first, table_cells(room))
        if why is not None:
            return why
        if len(ahead) == MOST_TABLES:
            return "long"
        return "deep" if len(within) == MOST_DEEP else None

    def entries(self, first, many, path, within):
        """The entries of the table that stands from the first cell on."""
        found = []
        for number in range(many):
            cell = first + 1 + ENTRY_CELLS * number
            tag, kind = self.pair_at(cell)
            if number > 0 and tag <= found[-1][0]:
                raise Spoilt("tags", path, number)
            found.append((tag, kind, self.worths(cell, path, number, within)))
        return tuple(found)

    def worths(self, cell, path, number, within):
        """The worths of the entry that stands from the cell on."""
        tag, kind = self.pair_at(cell)
        count = self.number_at(cell + 1)
        if count > MOST_WORTHS:
            raise Spoilt("many", path, number)
        sort = self.sort_of(kind)
        place = self.place_of(cell + 2, sort, count * width(kind), path, number)
        if sort == "worth":
            return self.plain(place, kind, count, path, number)
        pointers = [self.number_at(place + k) for k in range(count)]
        if sort == "pieces":
            return tuple([self.piece(pointer, path, number) for pointer in pointers])
        return tuple([self.chain(pointer, path + (tag, k), within) for k, pointer in enumerate(pointers)])

    def sort_of(self, kind):
        """The sort of the cells elsewhere that worths of the kind, or pointers to them, stand in."""
        if kind in self.known and kind == TABLES:
            return "chains"
        if kind in self.known and kind == PIECES:
            return "pieces"
        return "worth"

    def place_of(self, cell, sort, size, path, number):
        """The first cell of so many numbers: the place itself where they fit, or where it leads."""
        if size <= CELL:
            return cell
        first = self.number_at(cell)
        why = self.fault_of(sort, first, cells_for(size))
        if why is not None:
            raise Spoilt(why, path, number)
        self.hold(sort, first, cells_for(size))
        return first

    def plain(self, place, kind, count, path, number):
        """Worths of the kinds 1 to 4, and raw ones."""
        cells = [cell_of(self.numbers, place + k) for k in range(cells_for(count * width(kind)))]
        if kind == TEXT and kind in self.known:
            numbers = self.numbers[CELL * place:CELL * place + count]
            if not all([sign_of(sign) is not None for sign in numbers]):
                raise Spoilt("sign", path, number)
        return unpacked(self.order, kind, count, cells, known=self.known)

    def piece(self, first, path, number):
        """The piece to which a pointer leads."""
        if first == 0:
            return ()
        why = self.fault_of_piece(first)
        if why is not None:
            raise Spoilt(why, path, number)
        many = self.number_at(first)
        self.hold("piece", first, 1 + cells_for(many))
        return tuple(self.numbers[CELL * (first + 1):CELL * (first + 1) + many])

    def fault_of_piece(self, first):
        """Why there can't be a piece, or None."""
        if not self.is_inside(first, 1):
            return "beyond"
        many = self.number_at(first)
        if many > MOST_WORTHS:
            return "many"
        return self.fault_of("piece", first, 1 + cells_for(many))
