"""A shelf: keeps a file for several readers, while one writes."""

from tornentries.alike import first_unlike
from tornentries.cells import CELL
from tornentries.cuts import torn
from tornentries.errors import Busy, NoReader
from tornentries.kinds import KNOWN
from tornentries.least import least
from tornentries.making import refuse_raw
from tornentries.maps import cells_in
from tornentries.reading import head_of, read
from tornentries.strokes import strokes_of
from tornentries.texts import show_tree
from tornentries.whole import is_whole


class Shelf:
    """Keeps a file that can be read, for some known kinds, and with so much room in tables that are laid anew.

    Of each reader it keeps the root from which the file was read when the reader came: the cells of that tree stay as
    they are till the reader leaves.
    """

    def __init__(self, file, *, known=KNOWN, room=2):
        self._known = known
        self._room = room
        self._entered = 0
        self._roots = {}
        self._numbers = file
        self._tree = read(file, known=known)
        self.busy = False

    def enter(self):
        """A reader comes; its number."""
        _, root = head_of(self._numbers)
        self._entered += 1
        self._roots[self._entered] = root
        return self._entered

    def read(self, number):
        """The tree that was there when the reader came."""
        self._need_reader(number)
        return read(self._numbers, known=self._known, root=self._roots[number])

    def leave(self, number):
        """The reader leaves."""
        self._need_reader(number)
        del self._roots[number]

    def _need_reader(self, number):
        # A truth counts as a number where Python looks for it in a dict.
        if not is_whole(number):
            raise NoReader(None)
        if number not in self._roots:
            raise NoReader(number)

    def do(self, deed):
        """Does the deed; by how many strokes."""
        self.busy = True
        try:
            strokes = self._strokes_of(deed)
            self._take(torn(self._numbers, strokes, len(strokes)))
        finally:
            self.busy = False
        return len(strokes)

    def do_torn(self, deed, many):
        """Does only the first so many strokes of the deed."""
        self.busy = True
        try:
            self._take(torn(self._numbers, self._strokes_of(deed), many))
        finally:
            self.busy = False

    def pack(self):
        """Has a least file in place of its own."""
        self.busy = True
        try:
            if len(self._roots) > 0:
                raise Busy()
            refuse_raw(self._tree, self._known)
            self._take(least(self._tree))
        finally:
            self.busy = False

    def _strokes_of(self, deed):
        return strokes_of(self._numbers, deed, known=self._known, kept=self._kept(), room=self._room)

    def _take(self, file):
        """Keeps this file from now on, if it can be read."""
        self._tree = read(file, known=self._known)
        self._numbers = file

    def _kept(self):
        """All cells of the trees of readers, each cell once."""
        cells = {}
        for root in self._roots.values():
            for cell in cells_in(self._numbers, known=self._known, root=root):
                cells[cell] = True
        return tuple(cells)

    def file(self):
        """The file."""
        return self._numbers

    def tree(self):
        """The tree that the file reads as."""
        return self._tree

    def readers(self):
        """The numbers of the readers who haven't left, rising."""
        return sorted(self._roots)

    def spare(self):
        """How many cells are spare or unsure that no reader reads."""
        cells = cells_in(self._numbers, known=self._known) + self._kept()
        return len(self) - len(set(cells))

    def twin(self):
        """Another shelf that stands as this one does."""
        other = Shelf(self._numbers, known=self._known, room=self._room)
        other._entered = self._entered
        other._roots = dict(self._roots)
        return other

    def __len__(self):
        return len(range(0, len(self._numbers), CELL))

    def __eq__(self, other):
        if not isinstance(other, Shelf) or self._known != other._known:
            return False
        return first_unlike(self._tree, other._tree, known=self._known) is None

    def __str__(self):
        return str(show_tree(self._tree, known=self._known))

    def __repr__(self):
        return f"Shelf({len(self)} cells, {len(self._roots)} readers)"
