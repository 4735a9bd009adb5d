"""Trees drawn from few worths, so that much in them is alike, and files of them in which alike parts may be laid once."""

from tests.building import ORDERS, filled, head, number, pair, pointer, pointers
from tests.writing import Row, some_numbers

POOLS = {
    1: ((), (1,), (3, 2, 1), (4, 3, 2, 1), (7,) * 5, (7,) * 6, (7,) * 8, (7,) * 9, (65, 66, 67, 68, 69)),
    2: ((), (1,), (258, 3), (258, 3, 4), (258, 3, 4, 5), (1799, 1799, 1799)),
    3: ((), (2 ** 32 - 1,), (16909060, 7), (16909060, 7, 8), (117901063, 117901063)),
    4: ("", "a", "A-.9", "ABCDE", "ABCDE ", "Blank and signs", "0123456789"),
    6: ((), ((),), ((5,),), ((), (5,)), ((5,), (5,)), ((5,), (5, 6), ()), ((1, 2, 3, 4, 5), (5,)), ((9,) * 9,)),
    0: ((), (1, 2), (7,) * 5, (7,) * 8),
    7: ((), (1, 2), (7,) * 6, (7,) * 8, (2, 3, 4, 5, 6, 7)),
    8: ((), (1, 2, 3, 4), (7,) * 8, (7,) * 12),
    9: ((), (1,), (7,) * 7, (1, 2, 3, 4, 5)),
}
KINDS = (1, 2, 3, 4, 5, 5, 6)
RAW_KINDS = (0, 7, 8, 9)
WIDE = {1: 1, 2: 2, 3: 4, 4: 1, 5: 4, 6: 4}


def wide(kind):
    return WIDE.get(kind, (1, 2, 4)[kind % 3])


def drawn_tree(row, raw=True):
    return ORDERS[row.below(2)], drawn_chain(row, 4, 1 + row.below(3), raw)


def drawn_chain(row, deep, most, raw):
    """A chain of at most so many tables, in which chains may stand so deep, its own counted."""
    if deep == 0:
        return ()
    many = row.below(most + 1) if row.below(4) else most
    return tuple([drawn_table(row, deep - 1, raw) for _ in range(many)])


def drawn_table(row, deep, raw):
    tags = sorted({row.below(9) if row.below(3) else 300 * row.below(200) for _ in range(row.below(7))})
    return tuple([drawn_entry(row, tag, deep, raw) for tag in tags])


def drawn_entry(row, tag, deep, raw):
    kinds = KINDS + RAW_KINDS if raw else KINDS
    kind = kinds[row.below(len(kinds))]
    if kind == 5:
        return tag, kind, tuple([drawn_chain(row, deep, 2, raw) for _ in range(row.below(4))])
    return tag, kind, POOLS[kind][row.below(len(POOLS[kind]))]


def wanted(chain, room=0):
    """How many cells the chain needs, with nothing in it shared, and so much unused room in each table."""
    cells = 0
    for table in chain:
        cells += 2 + 3 * min(40, len(table) + room)
        for _, kind, worths in table:
            if kind == 5:
                cells += sum([wanted(inner, room) for inner in worths])
            if kind == 6:
                cells += sum([1 + (len(numbers) + 3) // 4 for numbers in worths if numbers])
            if len(worths) * wide(kind) > 4:
                cells += (len(worths) * wide(kind) + 3) // 4
    return cells


def has_raw(chain, known):
    """Whether some entry of the chain is raw to who knows these kinds."""
    for table in chain:
        for _, kind, worths in table:
            if kind not in known or (kind == 5 and any([has_raw(inner, known) for inner in worths])):
                return True
    return False


class Drawer:
    """Writes a tree; with gaps, unused room, and alike parts laid once or several times, as the row of numbers says."""

    def __init__(self, order, row, gaps=3, rooms=3, sharing=2):
        self.order = order
        self.row = row
        self.gaps = gaps
        self.rooms = rooms
        self.sharing = sharing
        self.cells = []
        self.laid = []

    def file(self, chain):
        root = self.chain(chain)
        self.gap()
        return head(self.order, root) + tuple([number for cell in self.cells for number in cell])

    def gap(self):
        if self.row.below(3) == 0:
            self.cells.extend([some_numbers(self.row, 4) for _ in range(self.row.below(self.gaps + 1))])

    def take(self, numbers):
        """Lays these numbers, and tells where."""
        self.gap()
        first = 2 + len(self.cells)
        self.cells.extend([tuple(numbers[at:at + 4]) for at in range(0, len(numbers), 4)])
        return first

    def chain(self, chain):
        following = 0
        for table in reversed(chain):
            room = min(40, len(table) + self.row.below(self.rooms + 1))
            numbers = pair(self.order, len(table), room)
            for entry in table:
                numbers += self.entry(*entry)
            numbers += some_numbers(self.row, 12 * (room - len(table))) + pointer(self.order, following)
            following = self.take(numbers)
        return following

    def entry(self, tag, kind, worths):
        sort = "worth"
        if kind == 5:
            sort, numbers = "chains", pointers(self.order, *[self.chain(chain) for chain in worths])
        elif kind == 6:
            sort, numbers = "pieces", pointers(self.order, *[self.piece(numbers) for numbers in worths])
        elif kind == 4:
            numbers = tuple([ord(sign) for sign in worths])
        elif kind in (1, 2, 3):
            numbers = tuple([part for worth in worths for part in number(self.order, worth, wide(kind))])
        else:
            numbers = worths
        start = pair(self.order, tag, kind) + pointer(self.order, len(numbers) // wide(kind))
        if len(numbers) > 4:
            return start + pointer(self.order, self.elsewhere(sort, numbers))
        return start + (filled(numbers, self.row.below(256)) or some_numbers(self.row, 4))

    def piece(self, numbers):
        if not numbers and self.row.below(2):
            return 0
        return self.elsewhere("piece", pointer(self.order, len(numbers)) + numbers)

    def elsewhere(self, sort, numbers):
        for laid, first, others in self.laid:
            if laid == sort and len(others) // 4 == (len(numbers) + 3) // 4 and others[:len(numbers)] == numbers:
                if sort != "chains" and self.row.below(3) < self.sharing:
                    return first
        whole = filled(numbers, self.row.below(256))
        first = self.take(whole)
        self.laid.append((sort, first, whole))
        return first


def drawn_files(many, least=2, most=200, raw=True, start=0, **told):
    """So many pairs of a tree and a file that has it, of at least and at most so many cells."""
    found = []
    while len(found) < many:
        start += 1
        row = Row(7919 * start)
        tree = drawn_tree(row, raw)
        file = Drawer(tree[0], row, **told).file(tree[1])
        if 4 * least <= len(file) <= 4 * most:
            found.append((tree, file))
    return found
