"""Fresh cells of a file: spare ones, and those behind its end."""

from tornentries.cells import MOST_CELLS
from tornentries.errors import TooGreat
from tornentries.maps import cells_of_sorts, stretches_of


def fresh_cells(reading):
    """All cells, up to the last one that a file may have, in which nothing of a file that was read stands."""
    spare = cells_of_sorts(stretches_of(reading), ("spare",))
    return list(spare) + list(range(reading.length(), MOST_CELLS))


class FreshCells:
    """A store of fresh cells that aren't kept; what it lays is told as strokes."""

    def __init__(self, reading, kept):
        self.runs = _runs_of([cell for cell in fresh_cells(reading) if cell not in kept])
        self.strokes = []

    def lay(self, sort, cells, size):
        """Lays these cells in the first run of fresh ones that has room for them, so in the file if there is one in it.

        All cells are stroked, whatever stands there: so a spare stretch of as many cells as there are strokes has room
        for all of them, and the file needn't get longer.
        """
        first = self.take(len(cells))
        self.strokes.extend([(first + k, cell) for k, cell in enumerate(cells)])
        return first

    def take(self, many):
        """The first of so many fresh cells side by side."""
        fitting = [at for at, (first, end) in enumerate(self.runs) if first + many <= end]
        if len(fitting) == 0:
            raise TooGreat()
        at = fitting[0]
        first, end = self.runs[at]
        self.runs[at] = (first + many, end)
        return first


def _runs_of(cells):
    """The runs of cells side by side in a rising list, each as its first cell and that behind its last one."""
    runs = []
    for cell in cells:
        if len(runs) > 0 and runs[-1][1] == cell:
            runs[-1] = (runs[-1][0], cell + 1)
        else:
            runs.append((cell, cell + 1))
    return runs
