"""A machine told in the plainest way, by Python's own means; it notes at which cells it looks."""

from tests.drawing import wide

SIGNS = b" -.0123456789ABCDEFGHIJKLMNOPQRSTUVWXYZabcdefghijklmnopqrstuvwxyz"


class Lost(Exception):
    pass


class Going:
    """One way through a file."""

    def __init__(self, file, known=(1, 2, 3, 4, 5, 6)):
        self.file = file
        self.known = known
        self.seen = set()

    def told(self, rows):
        for number, row in enumerate(rows):
            try:
                answer = getattr(self, row[0])(*row[1:])
            except Lost as lost:
                return "lost", number, str(lost)
        return answer

    def need(self, holds, why):
        if not holds:
            raise Lost(why)

    def has(self, cell):
        return 2 <= cell < len(self.file) // 4

    def bytes(self, cell):
        self.seen.add(cell)
        return bytes(self.file[4 * cell:4 * cell + 4])

    def number(self, cell):
        return int.from_bytes(self.bytes(cell), self.order)

    def pair(self, cell):
        return [int.from_bytes(half, self.order) for half in (self.bytes(cell)[:2], self.bytes(cell)[2:])]

    def root(self):
        self.seen.update((0, 1))
        start = self.file[:4]
        self.need(len(self.file) >= 8 and start in ((60, 60, 236, 7), (62, 62, 7, 236)), "head")
        self.order = "little" if start[0] == 60 else "big"
        self.at = self.number(1)
        return "at", self.at

    def start(self):
        self.need(self.at, "end")
        self.need(self.has(self.at), "beyond")
        many, room = self.pair(self.at)
        self.need(many <= room <= 40, "room")
        return many, room

    def next(self):
        _, room = self.start()
        cell = self.at + 1 + 3 * room
        self.need(self.has(cell), "beyond")
        self.at = self.number(cell)
        return "at", self.at

    def find(self, tag):
        many, _ = self.start()
        for number in range(many):
            self.entry = self.at + 1 + 3 * number
            self.need(self.has(self.entry), "beyond")
            other = self.pair(self.entry)[0]
            self.need(other <= tag, "tag")
            if other == tag:
                return "at", number
        raise Lost("tag")

    def counted(self):
        self.need(self.has(self.entry + 2), "beyond")
        return self.pair(self.entry)[1], self.number(self.entry + 1)

    def place(self, size):
        return self.entry + 2 if size <= 4 else self.number(self.entry + 2)

    def into(self, k):
        kind, count = self.counted()
        self.need(kind == 5 and 5 in self.known, "kind")
        self.need(count <= 300, "many")
        self.need(k < count, "end")
        cell = self.place(4 * count) + k
        self.need(self.has(cell), "beyond")
        self.at = self.number(cell)
        return "at", self.at

    def worth(self):
        kind, count = self.counted()
        self.need(count <= 300, "many")
        if kind == 5 and 5 in self.known:
            return "found", kind, count
        size = wide(kind) * count
        numbers = self.numbers(self.place(size), size) if size else b""
        if kind not in self.known:
            return "found", kind, tuple(numbers)
        if kind == 4:
            self.need(all([sign in SIGNS for sign in numbers]), "sign")
            return "found", kind, numbers.decode()
        parts = [int.from_bytes(numbers[at:at + wide(kind)], self.order) for at in range(0, size, wide(kind))]
        return "found", kind, tuple([self.piece(part) for part in parts] if kind == 6 else parts)

    def numbers(self, first, size):
        """So many numbers from a cell on, all of whose cells must be there."""
        cells = range(first, first + (size + 3) // 4)
        self.need(self.has(cells[0]) and self.has(cells[-1]), "beyond")
        return b"".join([self.bytes(cell) for cell in cells])[:size]

    def piece(self, first):
        if not first:
            return ()
        self.need(self.has(first), "beyond")
        many = self.number(first)
        self.need(many <= 300, "many")
        return tuple(self.numbers(first + 1, many)) if many else ()
