"""Where in a file that was read the pointers and entries of a path stand.

A part is a tuple (sort, first, many), as a reading has them; a link is a tuple (cell, part): the cell of a pointer, and
the part that it stands in (None of the head, which isn't laid elsewhere).
"""

from tornentries.cells import cell_of
from tornentries.numbers import number_in
from tornentries.reading import ROOT_CELL
from tornentries.sheet import ENTRY_CELLS, table_cells


class Links:
    """The links and entries of a file that was read."""

    def __init__(self, reading):
        self.reading = reading

    def links_to(self, path):
        """All links from the head to the table of the path, or to the place at the end of a chain where it may come."""
        links = [(ROOT_CELL, None)]
        for at in range(0, len(path), 3):
            if at > 0:
                links.extend(self.links_into(path[:at - 2], path[at - 2], path[at - 1]))
            links.extend([self.link_behind(path[:at] + (n,)) for n in range(path[at])])
        return links

    def links_into(self, path, tag, k):
        """The links from the table of the path to the k-th chain of its entry of the tag."""
        start = self.entry_cell(path, tag)
        links = [(start + 2, self.table_part(path))]
        count = self.reading.number_at(start + 1)
        if count > 1:
            first = self.reading.number_at(start + 2)
            links.append((first + k, ("chains", first, count)))
        return links

    def link_behind(self, path):
        """The link from the table of the path to the next one of its chain."""
        part = self.table_part(path)
        _, first, many = part
        return first + many - 1, part

    def table_part(self, path):
        """The part that the table of the path is."""
        first = self.reading.tables[path]
        _, room = self.reading.pair_at(first)
        return "table", first, table_cells(room)

    def following(self, path):
        """Where the table of the path leads to in its chain, or 0."""
        return self.reading.number_at(self.link_behind(path)[0])

    def entry_cell(self, path, tag):
        """The first cell of the entry of the tag in the table of the path."""
        tags = [row[0] for row in self.rows(path)]
        return self.reading.tables[path] + 1 + ENTRY_CELLS * tags.index(tag)

    def rows(self, path):
        """The entries of the table of the path, each as its tag and its three cells."""
        first = self.reading.tables[path]
        many, _ = self.reading.pair_at(first)
        return [self.row_at(first + 1 + ENTRY_CELLS * number) for number in range(many)]

    def row_at(self, cell):
        """The entry that stands from the cell on, as its tag and its three cells."""
        cells = [cell_of(self.reading.numbers, cell + k) for k in range(ENTRY_CELLS)]
        return number_in(self.reading.order, cells[0][:2]), cells
