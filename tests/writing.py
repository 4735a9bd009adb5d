"""Trees and files made by a fixed row of numbers, for tests that go over many of them."""

from tests.building import ORDERS, filled, head, number, pair, piece, pointer, pointers

SIGNS = " -.0123456789ABCDEFGHIJKLMNOPQRSTUVWXYZabcdefghijklmnopqrstuvwxyz"
WIDTHS = {1: 1, 2: 2, 3: 4, 4: 1, 5: 4, 6: 4, 7: 2, 8: 4, 9: 1}


class Row:
    """Numbers that look mixed, the same ones each time."""

    def __init__(self, start):
        self.state = start

    def below(self, bound):
        self.state = (self.state * 6364136223846793005 + 1442695040888963407) % 2 ** 64
        return (self.state >> 33) % bound


def some_tree(row):
    return ORDERS[row.below(2)], some_chain(row, 4, 3)


def some_chain(row, deep, most):
    if deep == 0:
        return ()
    return tuple([some_table(row, deep - 1) for _ in range(row.below(most + 1))])


def some_table(row, deep):
    tags = sorted({row.below(9) if row.below(2) else row.below(65536) for _ in range(row.below(5))})
    return tuple([some_entry(row, tag, deep) for tag in tags])


def some_entry(row, tag, deep):
    kind = 1 + row.below(9)
    count = row.below(4) if row.below(4) else row.below(12)
    if kind <= 3:
        return tag, kind, tuple([row.below(256 ** WIDTHS[kind]) for _ in range(count)])
    if kind == 4:
        return tag, kind, "".join([SIGNS[row.below(len(SIGNS))] for _ in range(count)])
    if kind == 5:
        return tag, kind, tuple([some_chain(row, deep, 2) for _ in range(count % 4)])
    if kind == 6:
        return tag, kind, tuple([some_numbers(row, row.below(10)) for _ in range(count)])
    return tag, kind, some_numbers(row, count * WIDTHS[kind])


def some_numbers(row, many):
    return tuple([row.below(256) for _ in range(many)])


class Writer:
    """Writes a tree part by part, with cells between them that nothing leads to."""

    def __init__(self, order, row):
        self.order = order
        self.row = row
        self.cells = [None, None]

    def file(self, chain):
        root = self.chain(chain)
        numbers = [number for cell in self.cells[2:] for number in cell]
        return head(self.order, root) + tuple(numbers)

    def take(self, many):
        """The first of so many fresh cells."""
        self.cells.extend([some_numbers(self.row, 4) for _ in range(self.row.below(3))])
        first = len(self.cells)
        self.cells.extend([some_numbers(self.row, 4) for _ in range(many)])
        return first

    def put(self, first, numbers):
        for at in range(0, len(numbers), 4):
            self.cells[first + at // 4] = tuple(numbers[at:at + 4])

    def chain(self, chain):
        """The pointer to a chain, its tables laid from the last one to the first."""
        following = 0
        for table in reversed(chain):
            room = len(table) + self.row.below(3)
            first = self.take(2 + 3 * room)
            self.put(first, pair(self.order, len(table), room))
            self.put(first + 1 + 3 * room, pointer(self.order, following))
            for number, entry in enumerate(table):
                self.put(first + 1 + 3 * number, self.entry(*entry))
            following = first
        return following

    def entry(self, tag, kind, worths):
        if kind == 5:
            numbers = pointers(self.order, *[self.chain(chain) for chain in worths])
        elif kind == 6:
            numbers = pointers(self.order, *[self.piece(numbers) for numbers in worths])
        elif kind == 4:
            numbers = tuple([ord(sign) for sign in worths])
        elif kind <= 3:
            numbers = tuple([part for worth in worths for part in number(self.order, worth, WIDTHS[kind])])
        else:
            numbers = worths
        start = pair(self.order, tag, kind) + pointer(self.order, len(numbers) // WIDTHS[kind])
        if len(numbers) > 4:
            return start + pointer(self.order, self.elsewhere(numbers))
        return start + (filled(numbers, self.row.below(256)) or some_numbers(self.row, 4))

    def piece(self, numbers):
        if not numbers and self.row.below(2):
            return 0
        return self.elsewhere(piece(self.order, numbers))

    def elsewhere(self, numbers):
        numbers = filled(numbers, self.row.below(256))
        first = self.take(len(numbers) // 4)
        self.put(first, numbers)
        return first


def some_files(many):
    """So many pairs of a tree and a file that has it, of at most a thousand cells."""
    told = []
    start = 0
    while len(told) < many:
        start += 1
        row = Row(start)
        order, chain = some_tree(row)
        file = Writer(order, row).file(chain)
        if len(file) <= 4000:
            told.append(((order, chain), file))
    return told
