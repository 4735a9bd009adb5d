"""Files written as figures to the base 16, and read back."""

from tornentries.cells import CELL, MOST_CELLS, cell_of
from tornentries.errors import NoText
from tornentries.words import lines_of

BASE = 16
FIGURES = "0123456789abcdef"
PAIR = 2
LINE_CELLS = 8


def show_file(file):
    """The text of the file."""
    words = [_word_of(cell_of(file, cell)) for cell in range(len(file) // CELL)]
    return lines_of([" ".join(words[at:at + LINE_CELLS]) for at in range(0, len(words), LINE_CELLS)])


def _word_of(cell):
    return "".join([f"{number:02x}" for number in cell])


def read_file(text):
    """The file that the text writes."""
    if not isinstance(text, str):
        raise NoText(None)
    lines = text.split("\n")
    rest = lines.pop()
    numbers = []
    for at, line in enumerate(lines):
        cells = _cells_in(line)
        # A line of fewer cells can only be the last one, so it's the line behind it that can't stand there.
        if cells is None or len(numbers) != CELL * LINE_CELLS * at or len(numbers) == CELL * MOST_CELLS:
            raise NoText(at)
        numbers.extend(cells)
    if rest != "":
        raise NoText(len(lines))
    return tuple(numbers)


def _cells_in(line):
    """The numbers of the cells in the line, or None."""
    words = line.split(" ")
    if len(words) > LINE_CELLS or not all([_is_cell(word) for word in words]):
        return None
    return [int(word[at:at + PAIR], BASE) for word in words for at in range(0, PAIR * CELL, PAIR)]


def _is_cell(word):
    return len(word) == PAIR * CELL and all([sign in FIGURES for sign in word])
