"""Files, their cells, and strokes at cells."""

from tornentries.whole import are_within, is_within

CELL = 4
MOST_CELLS = 1000
BYTE = 255


def is_file(thing):
    """Whether this is a file, of anything."""
    return are_within(thing, 0, BYTE) and len(thing) % CELL == 0 and len(thing) <= CELL * MOST_CELLS


def is_stroke(thing):
    """Whether this is a stroke, of anything."""
    if not isinstance(thing, tuple) or len(thing) != 2:
        return False
    cell, numbers = thing
    return is_within(cell, 0, MOST_CELLS - 1) and are_within(numbers, 0, BYTE) and len(numbers) == CELL


def cell_of(file, cell):
    """The four numbers of a cell."""
    return tuple(file[CELL * cell:CELL * cell + CELL])


def cells_for(many):
    """How many cells so many numbers need."""
    return (many + CELL - 1) // CELL


def stroked(file, strokes):
    """The file behind these strokes, done one behind the other."""
    numbers = list(file)
    for cell, fresh in strokes:
        start = CELL * cell
        missing = start + CELL - len(numbers)
        if missing > 0:
            numbers.extend([0] * missing)
        numbers[start:start + CELL] = list(fresh)
    return tuple(numbers)
