"""A file changed by strokes: all that is fresh first, then one stroke that leads to it."""

from tornentries.cells import CELL, cell_of
from tornentries.fresh import FreshCells
from tornentries.laying import Laying
from tornentries.links import Links
from tornentries.numbers import written
from tornentries.reading import ROOT_CELL
from tornentries.sheet import ENTRY_CELLS


class Changing:
    """Changes a file that was read by strokes at no kept cell; a deed's table laid anew has so much unused room."""

    def __init__(self, reading, kept, room):
        self.reading = reading
        self.kept = kept
        self.room = room
        self.links = Links(reading)
        self.fresh = FreshCells(reading, kept)
        self.laying = Laying(reading.order, self.fresh, 0)

    def write(self, cell, numbers):
        """A stroke at a cell that isn't fresh."""
        self.fresh.strokes.append((cell, numbers))

    def insert_entry(self, path, tag, cells):
        """An entry of a fresh tag comes into the table: in its unused room, where it is the last entry there."""
        first = self.reading.tables[path]
        many, room = self.reading.pair_at(first)
        rows = self.links.rows(path)
        start = first + 1 + ENTRY_CELLS * many
        is_last = many == 0 or tag > rows[-1][0]
        if is_last and many < room and self.are_open([first] + [start + k for k in range(ENTRY_CELLS)]):
            for k, cell in enumerate(cells):
                self.write(start + k, cell)
            self.write(first, self.laying.pair(many + 1, room))
        else:
            self.lay_anew(path, sorted(rows + [(tag, cells)]))

    def are_open(self, cells):
        """Whether none of these cells is kept."""
        return not any([cell in self.kept for cell in cells])

    def leave_out(self, path, tag):
        """The entry of the tag is taken out of the table."""
        first = self.reading.tables[path]
        many, room = self.reading.pair_at(first)
        rows = self.links.rows(path)
        if rows[-1][0] == tag and first not in self.kept:
            self.write(first, self.laying.pair(many - 1, room))
        else:
            self.lay_anew(path, [row for row in rows if row[0] != tag])

    def replace_entry(self, path, tag, cells):
        """The entry of the tag gets these cells: in its place, where only one of them is another one."""
        start = self.links.entry_cell(path, tag)
        elder = self.links.row_at(start)[1]
        unlike = [k for k in range(ENTRY_CELLS) if cells[k] != elder[k]]
        if len(unlike) == 1 and start + unlike[0] not in self.kept:
            self.write(start + unlike[0], cells[unlike[0]])
        else:
            rows = self.links.rows(path)
            self.lay_anew(path, [(tag, cells) if row[0] == tag else row for row in rows])

    def replace_piece(self, path, tag, k, piece):
        """The k-th piece of the entry becomes the one at the cell piece, or that of none."""
        start = self.links.entry_cell(path, tag)
        _, cells = self.links.row_at(start)
        count = self.reading.number_at(start + 1)
        place = piece
        if count > 1:
            first = self.reading.number_at(start + 2)
            part = ("pieces", first, count)
            if self.is_alone(part) and first + k not in self.kept:
                self.write(first + k, self.laying.pointer(piece))
                return
            place = self.copied(part, first + k, piece)
        self.replace_entry(path, tag, cells[:2] + [self.laying.pointer(place)])

    def is_alone(self, part):
        """Whether the part surely has one owner: what a raw entry leads to isn't known."""
        return len(self.reading.owners[part]) == 1 and not self.reading.has_raw

    def shared_cells(self, path, tag, other):
        """The cells of an entry of the tag other, that has its worths with the one of the path and the tag."""
        _, cells = self.links.row_at(self.links.entry_cell(path, tag))
        return [written(self.reading.order, other, 2) + cells[0][2:]] + cells[1:]

    def insert_table(self, path, table):
        """The table comes into the chain, as the one of the path."""
        links = self.links.links_to(path)
        following = self.reading.number_at(links[-1][0])
        self.lead(links, self.laying.table(table, following))

    def leave_table(self, path):
        """The table of the path is taken out of its chain."""
        self.lead(self.links.links_to(path), self.links.following(path))

    def lay_anew(self, path, rows):
        """The table of the path is laid anew, with these entries."""
        cells = [row[1] for row in rows]
        fresh = self.laying.rows(cells, self.room, self.links.following(path))
        self.lead(self.links.links_to(path), fresh)

    def lead(self, links, target):
        """Has the last of the links lead to the target: in its cell, or, where this is kept, in a copy of its part.

        To a copy the link ahead must lead, and so on, up to the head.
        """
        for cell, part in reversed(links):
            if cell == ROOT_CELL or cell not in self.kept:
                self.write(cell, self.laying.pointer(target))
                return
            target = self.copied(part, cell, target)

    def copied(self, part, cell, target):
        """Lays a copy of the part that leads to the target from the copy of this cell; its first cell."""
        sort, first, many = part
        cells = [cell_of(self.reading.numbers, first + k) for k in range(many)]
        cells[cell - first] = self.laying.pointer(target)
        return self.fresh.lay(sort, cells, CELL * many)
