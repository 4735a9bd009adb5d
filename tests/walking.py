"""A plain walk through a file that is known to be whole: what stands where, by Python's own means."""

from tests.drawing import wide


class Walk:
    """The parts, tables and entries of a file; of parts each owner by itself."""

    def __init__(self, file, known=(1, 2, 3, 4, 5, 6), root=None):
        self.file = file
        self.known = known
        self.order = "little" if file[0] == 60 else "big"
        self.parts = {(0, 2, "head"): []}
        self.tables = {}
        self.entries = {}
        self.lists = {}
        self.pointers = {}
        self.raw = False
        self.chain(1, (), root)

    def cell(self, at):
        return self.file[4 * at:4 * at + 4]

    def number(self, at):
        return int.from_bytes(bytes(self.cell(at)), self.order)

    def pair(self, at):
        cell = bytes(self.cell(at))
        return int.from_bytes(cell[:2], self.order), int.from_bytes(cell[2:], self.order)

    def part(self, first, many, sort, owner):
        self.parts.setdefault((first, many, sort), []).append(owner)

    def chain(self, at, start, root=None):
        """Goes along the chain to which the pointer at a cell, or root in its place, leads."""
        n = 0
        self.pointers[start + (0,)] = at
        first = self.number(at) if root is None else root
        while first:
            path = start + (n,)
            many, room = self.pair(first)
            self.tables[path] = (first, many, room)
            self.part(first, 2 + 3 * room, "table", path)
            for k in range(many):
                self.entry(first + 1 + 3 * k, path)
            n += 1
            self.pointers[start + (n,)] = first + 1 + 3 * room
            first = self.number(first + 1 + 3 * room)

    def entry(self, at, path):
        tag, kind = self.pair(at)
        count = self.number(at + 1)
        self.entries[(path, tag)] = at
        self.raw = self.raw or kind not in self.known
        size = count * wide(kind)
        place = at + 2
        if size > 4:
            place = self.number(at + 2)
            sort = "list" if kind in (5, 6) and kind in self.known else "worth"
            self.part(place, (size + 3) // 4, sort, (path, tag))
            self.lists[(path, tag)] = place
        if kind == 5 and kind in self.known:
            for k in range(count):
                self.chain(place + k, path + (tag, k))
        if kind == 6 and kind in self.known:
            for k in range(count):
                first = self.number(place + k)
                if first:
                    self.part(first, 1 + (self.number(first) + 3) // 4, "piece", (path, tag, k))

    def map(self):
        """The map of the file: cell by cell, so that nothing of it is put together as the program does it."""
        whose = [None] * (len(self.file) // 4)
        for (first, many, sort), owners in self.parts.items():
            for cell in range(first, first + many):
                assert whose[cell] is None
                whose[cell] = (first, many, sort, tuple(sorted(owners)))
        told = []
        for cell, part in enumerate(whose):
            if part is not None:
                if part[0] == cell:
                    told.append(part)
            elif cell > 0 and whose[cell - 1] is None:
                first, many, sort, owners = told.pop()
                told.append((first, many + 1, sort, owners))
            else:
                told.append((cell, 1, "unsure" if self.raw else "spare", ()))
        return told

    def spare(self):
        """All spare cells, none where these are unsure."""
        return [cell for first, many, sort, _ in self.map() if sort == "spare" for cell in range(first, first + many)]

    def unused(self):
        """All cells of unused room."""
        return [first + 1 + at for first, many, room in self.tables.values() for at in range(3 * many, 3 * room)]

    def held(self):
        """All cells that some part has."""
        return sorted({cell for first, many, _ in self.parts for cell in range(first, first + many)})
