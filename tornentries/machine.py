"""The machine: goes by the rows of a way through the cells of a file, and looks at no others."""

from tornentries.errors import Spoilt
from tornentries.kinds import KNOWN, has_chains
from tornentries.reading import LOST, head_of
from tornentries.sheet import ENTRY_CELLS, Sheet, table_cells
from tornentries.ways import looked
from tornentries.worths import MOST_WORTHS


def gone(file, rows, *, known=KNOWN):
    """What the machine tells at the end of the rows, or which row it can't do, and why."""
    way = looked(rows)
    try:
        order, root = head_of(file)
    except Spoilt as error:
        return (LOST, 0, error.why)
    machine = Machine(Sheet(file, order, known), root)
    for number, row in enumerate(way[1:], start=1):
        action = ACTIONS[row[0]]
        why = action(machine, row)
        if why is not None:
            return (LOST, number, why)
    return machine.told


class Machine:
    """Has a pointer, perhaps an entry (its first cell), and what it tells where it stands."""

    def __init__(self, sheet, root):
        self.sheet = sheet
        self.target = root
        self.start = None
        self.told = ("at", root)

    def fault_of_table(self):
        """Why the pointer leads to no table, by the table's first cell alone, or None."""
        return "end" if self.target == 0 else self.sheet.fault_of_start(self.target)

    def lead(self, cell):
        """Takes the pointer in this cell; why it can't, or None."""
        if not self.sheet.is_inside(cell, 1):
            return "beyond"
        self.target = self.sheet.number_at(cell)
        self.told = ("at", self.target)
        return None

    def is_entry_inside(self):
        """Whether the count and the place of its entry are in the file."""
        return self.sheet.is_inside(self.start + 1, ENTRY_CELLS - 1)


# Each of these does a row, and tells why it can't, or None.


def _next(machine, _):
    why = machine.fault_of_table()
    if why is not None:
        return why
    _, room = machine.sheet.pair_at(machine.target)
    return machine.lead(machine.target + table_cells(room) - 1)


def _find(machine, row):
    why = machine.fault_of_table()
    if why is not None:
        return why
    many, _ = machine.sheet.pair_at(machine.target)
    for number in range(many):
        cell = machine.target + 1 + ENTRY_CELLS * number
        if not machine.sheet.is_inside(cell, 1):
            return "beyond"
        tag, _ = machine.sheet.pair_at(cell)
        if tag == row[1]:
            machine.start = cell
            machine.told = ("at", number)
            return None
        if tag > row[1]:
            return "tag"
    return "tag"


def _into(machine, row):
    sheet, entry = machine.sheet, machine.start
    if not machine.is_entry_inside():
        return "beyond"
    _, kind = sheet.pair_at(entry)
    if not has_chains(kind, sheet.known):
        return "kind"
    count = sheet.number_at(entry + 1)
    if count > MOST_WORTHS:
        return "many"
    if row[1] >= count:
        return "end"
    return machine.lead(sheet.place_of(entry) + row[1])


def _worth(machine, row):
    sheet, entry = machine.sheet, machine.start
    if not machine.is_entry_inside():
        return "beyond"
    _, kind = sheet.pair_at(entry)
    count = sheet.number_at(entry + 1)
    if count > MOST_WORTHS:
        return "many"
    if has_chains(kind, sheet.known):
        machine.told = ("found", kind, count)
        return None
    place = sheet.place_of(entry)
    why = sheet.fault_of_worths(place, kind, count)
    if why is not None:
        return why
    if sheet.sort_of(kind) == "pieces":
        return _pieces(machine, kind, sheet.pointers(place, count))
    machine.told = ("found", kind, sheet.plain(place, kind, count))
    return None


def _pieces(machine, kind, pointers):
    pieces = []
    for first in pointers:
        why = None if first == 0 else machine.sheet.fault_of_piece(first)
        if why is not None:
            return why
        pieces.append(() if first == 0 else machine.sheet.piece_at(first))
    machine.told = ("found", kind, tuple(pieces))
    return None


ACTIONS = {"next": _next, "find": _find, "into": _into, "worth": _worth}
