"""Maps of files: whose every cell is, or that it is spare."""

from tornentries.errors import Spoilt
from tornentries.kinds import KNOWN
from tornentries.reading import reading_of
from tornentries.sheet import ENTRY_CELLS, HEAD_CELLS

# What the sorts that a reading tells apart are called in a map.
MAP_SORTS = {"table": "table", "chains": "list", "pieces": "list", "worth": "worth", "piece": "piece"}


def map_of(file, *, known=KNOWN, root=None):
    """The map of the file, read from the root in its head or from another one."""
    return stretches_of(reading_of(file, known, root))


def lets_map(file, thing, *, known=KNOWN, root=None):
    """Whether this is the map of the file, of anything."""
    try:
        told = map_of(file, known=known, root=root)
    except Spoilt:
        return False
    # A truth counts as a number where Python compares.
    return thing == told and not has_truth(thing)


def cells_in(file, *, known=KNOWN, root=None):
    """All cells of the file that are neither spare nor unsure."""
    return cells_of_sorts(map_of(file, known=known, root=root), ("head", "table", "list", "worth", "piece"))


def stretches_of(reading):
    """The map of a file that was read."""
    told = []
    end = 0
    for stretch in _parts_of(reading):
        told.extend(_free(reading, end, stretch[0]))
        told.append(stretch)
        end = stretch[0] + stretch[1]
    told.extend(_free(reading, end, reading.length()))
    return told


def _parts_of(reading):
    parts = [(0, HEAD_CELLS, "head", ())]
    for (sort, first, many), owners in reading.owners.items():
        parts.append((first, many, MAP_SORTS[sort], tuple(sorted(owners))))
    return sorted(parts)


def _free(reading, first, end):
    """The stretch of no owner up to the end, if there is one."""
    if first == end:
        return []
    return [(first, end - first, "unsure" if reading.has_raw else "spare", ())]


def cells_of_sorts(stretches, sorts):
    """All cells of the stretches of these sorts, rising."""
    return tuple([cell for first, many, sort, _ in stretches if sort in sorts for cell in range(first, first + many)])


def unused_cells(reading):
    """All cells of unused room in the tables of a file that was read."""
    cells = []
    for first in reading.tables.values():
        many, room = reading.pair_at(first)
        start = first + 1
        cells.extend([start + k for k in range(ENTRY_CELLS * many, ENTRY_CELLS * room)])
    return cells


def has_truth(thing):
    """Whether there is a truth in this, however deep."""
    if isinstance(thing, (list, tuple)):
        return any([has_truth(part) for part in thing])
    return isinstance(thing, bool)
