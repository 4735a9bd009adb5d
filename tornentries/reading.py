"""Files read: from the head on, table by table, into a tree."""

from tornentries.cells import CELL, cell_of, cells_for
from tornentries.errors import Spoilt
from tornentries.kinds import KNOWN, width
from tornentries.numbers import number_in, written
from tornentries.sheet import ENTRY_CELLS, HEAD_CELLS, Sheet, table_cells
from tornentries.trees import MOST_DEEP, MOST_TABLES

ROOT_CELL = 1
HEAD_NUMBER = 2028
HEAD_MARKS = (("small", 60), ("great", 62))
LOST = "lost"

# Sorts of cells that may be used by others of the same sort; tables and lists of chains may not.
SHARED = ("worth", "pieces", "piece")


def head_cells(order, root):
    """The two cells of a head."""
    marks = tuple([mark for marked, mark in HEAD_MARKS if marked == order])
    return (marks + marks + written(order, HEAD_NUMBER, 2), written(order, root, CELL))


def head_of(file):
    """The order of the file, and the pointer to its first table."""
    for order, _ in HEAD_MARKS:
        if len(file) >= CELL * HEAD_CELLS and cell_of(file, 0) == head_cells(order, 0)[0]:
            return order, number_in(order, cell_of(file, ROOT_CELL))
    raise Spoilt("head", (), None)


def read(file, *, known=KNOWN, root=None):
    """The tree of the file, from the root in its head or from another one."""
    return reading_of(file, known, root).tree_read


def reading_of(file, known, root=None):
    """The whole reading of the file, its tree and whose its cells are."""
    order, first = head_of(file)
    reading = Reading(file, order, known, False)
    reading.begin(first if root is None else root)
    return reading


class Reading(Sheet):
    """One reading of a file: its tree, and who holds each cell of it.

    A path leads to a table; within are the first cells of the tables that a table stands in. A reading that goes on
    keeps what is lost in losses; another one is refused at the first loss.
    """

    def __init__(self, file, order, known, goes_on):
        super().__init__(file, order, known)
        self.goes_on = goes_on
        self.held = {}
        self.owners = {}
        self.tables = {}
        self.losses = []
        self.has_raw = False
        self.tree_read = None

    def begin(self, root):
        """Reads the tree from this pointer on."""
        self.tree_read = (self.order, self.chain(root, (), ()))

    def lose(self, why, path, number):
        """What stands in the place of what is lost."""
        if not self.goes_on:
            raise Spoilt(why, path, number)
        self.losses.append((why, path, number))
        return (LOST, why)

    def fault_of(self, sort, first, many):
        """Why cells can't be held, or None."""
        why = super().fault_of(sort, first, many)
        if why is not None:
            return why
        holders = [self.held.get(cell) for cell in range(first, first + many)]
        fitting = (None, (sort, first, many)) if sort in SHARED else (None,)
        if not all([holder in fitting for holder in holders]):
            return "crossed"
        return None

    def hold(self, sort, first, many, owner):
        """Notes that these cells are held together, and for whom."""
        part = (sort, first, many)
        for cell in range(first, first + many):
            self.held[cell] = part
        self.owners.setdefault(part, []).append(owner)

    def chain(self, pointer, start, within):
        """The chain to which the pointer leads; start with a number behind it is the path of a table."""
        tables = []
        firsts = []
        while pointer != 0:
            path = start + (len(tables),)
            why = self.fault_of_table(pointer, firsts, within)
            if why is not None:
                tables.append(self.lose(why, path, None))
                break
            many, room = self.pair_at(pointer)
            self.hold("table", pointer, table_cells(room), path)
            self.tables[path] = pointer
            tables.append(self.entries(pointer, many, path, within + (pointer,)))
            firsts.append(pointer)
            pointer = self.number_at(pointer + table_cells(room) - 1)
        return tuple(tables)

    def fault_of_table(self, first, ahead, within):
        """Why there can't be a table behind those ahead in its chain, or None."""
        if first in ahead or first in within:
            return "ring"
        why = self.fault_of_start(first)
        if why is not None:
            return why
        _, room = self.pair_at(first)
        why = self.fault_of("table", first, table_cells(room))
        if why is not None:
            return why
        if len(ahead) == MOST_TABLES:
            return "long"
        return "deep" if len(within) == MOST_DEEP else None

    def entries(self, first, many, path, within):
        """The entries of the table that stands from the first cell on."""
        found = []
        for number in range(many):
            cell = first + 1 + ENTRY_CELLS * number
            tag, kind = self.pair_at(cell)
            if number > 0 and tag <= found[-1][0]:
                worths = self.lose("tags", path, number)
            else:
                worths = self.worths(cell, path, number, within)
            found.append((tag, kind, worths))
        return tuple(found)

    def worths(self, cell, path, number, within):
        """The worths of the entry that stands from the cell on."""
        tag, kind = self.pair_at(cell)
        count = self.number_at(cell + 1)
        if kind not in self.known:
            self.has_raw = True
        place = self.place_of(cell)
        why = self.fault_of_worths(place, kind, count)
        if why is not None:
            return self.lose(why, path, number)
        sort = self.sort_of(kind)
        if count * width(kind) > CELL:
            self.hold(sort, place, cells_for(count * width(kind)), (path, tag))
        if sort == "worth":
            return self.plain(place, kind, count)
        pointers = self.pointers(place, count)
        if sort == "pieces":
            return tuple([self.piece(pointer, path, number, (path, tag, k)) for k, pointer in enumerate(pointers)])
        return tuple([self.chain(pointer, path + (tag, k), within) for k, pointer in enumerate(pointers)])

    def piece(self, first, path, number, owner):
        """The piece to which a pointer leads."""
        if first == 0:
            return ()
        why = self.fault_of_piece(first)
        if why is not None:
            return self.lose(why, path, number)
        self.hold("piece", first, 1 + cells_for(self.number_at(first)), owner)
        return self.piece_at(first)
