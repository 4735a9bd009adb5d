"""What a text may have in each line, told line by line by a pile of what is still open; independent of the program."""

import re

NUMBER = "(?:0|[1-9][0-9]{0,9})"
NUMBERS = f"(?: {NUMBER})*"
BOUNDS = {1: 2 ** 8, 2: 2 ** 16, 3: 2 ** 32}
SIGNS = re.compile("[ .0-9A-Za-z-]*")
WIDE = (1, 2, 4)
DEEDS = {
    "put": "P", "change": "P", "out": "PT", "share": "PTPT", "piece": "PTKN", "chain": "P", "cut": "P",
}
PARTS = {"P": f"{NUMBER}(?:\\.{NUMBER}){{0,9}}", "T": NUMBER, "K": NUMBER}


class Wrong(Exception):
    pass


def need(holds):
    if not holds:
        raise Wrong()


class Pile:
    """What is open behind some lines: lists of a word and what is counted; the last one is the innermost."""

    def __init__(self, known, raw):
        self.known = known
        self.raw = raw
        self.open = []

    def take(self, line):
        word = self.open[-1][0] if self.open else None
        need(word)
        getattr(self, "in_" + word)(line, self.open[-1])

    def in_chain(self, line, frame):
        """A chain: how many tables, how deep it stands (from 1 on), what closes it."""
        if line == frame[3]:
            self.open.pop()
            return
        need(line == "table" and frame[1] < 10 and frame[2] <= 4)
        frame[1] += 1
        self.open.append(["table", 0, frame[2], -1])

    def in_onetable(self, line, frame):
        need(line == "table")
        self.open[-1] = ["table", 0, 1, -1]

    def in_table(self, line, frame):
        """A table: how many entries, how deep its chain stands, the last tag."""
        if line == "end":
            self.open.pop()
            return
        need(frame[1] < 40)
        frame[1] += 1
        frame[3] = self.entry(line, frame[2], frame[3])

    def in_oneentry(self, line, frame):
        self.open.pop()
        self.entry(line, 1, -1)

    def entry(self, line, deep, ahead):
        """The tag of the entry that begins with the line."""
        found = re.fullmatch(f"entry ({NUMBER}) ({NUMBER})({NUMBERS})", line)
        if found:
            tag, kind = int(found[1]), int(found[2])
            numbers = [int(word) for word in found[3].split()]
            self.numbers(kind, numbers)
        elif re.fullmatch(f"text {NUMBER} .*", line):
            _, tag, signs = line.split(" ", 2)
            need(4 in self.known and SIGNS.fullmatch(signs) and len(signs) <= 300)
        else:
            found = re.fullmatch(f"(chains|pieces) ({NUMBER})", line)
            need(found and (5 if found[1] == "chains" else 6) in self.known)
            tag = found[2]
            self.open.append([found[1], 0, deep])
        need(ahead < int(tag) < 2 ** 16)
        return int(tag)

    def numbers(self, kind, numbers):
        need(kind < 2 ** 16)
        if kind in self.known:
            need(kind <= 3 and len(numbers) <= 300 and all([number < BOUNDS[kind] for number in numbers]))
        else:
            wide = (1, 2, 4, 1, 4, 4)[kind - 1] if 1 <= kind <= 6 else WIDE[kind % 3]
            need(self.raw and len(numbers) % wide == 0 and len(numbers) <= 300 * wide and max(numbers, default=0) < 256)

    def in_chains(self, line, frame):
        if line == "end":
            self.open.pop()
            return
        need(line == "chain" and frame[1] < 300)
        frame[1] += 1
        self.open.append(["chain", 0, frame[2] + 1, "done"])

    def in_pieces(self, line, frame):
        if line == "end":
            self.open.pop()
            return
        need(re.fullmatch("piece" + NUMBERS, line) and frame[1] < 300)
        frame[1] += 1
        piece = [int(word) for word in line.split()[1:]]
        need(len(piece) <= 300 and max(piece, default=0) < 256)

    def in_order(self, line, frame):
        need(line in ("order small", "order great"))
        self.open[-1] = ["chain", 0, 1, None]

    def in_deed(self, line, frame):
        word = line.split(" ")[0]
        need(word in DEEDS)
        form = DEEDS[word]
        pattern = "".join([" (" + PARTS[part] + ")" for part in form if part != "N"])
        found = re.fullmatch(word + pattern + (f"({NUMBERS})" if form[-1] == "N" else ""), line)
        need(found)
        for part, told in zip(form, found.groups()):
            need(part != "P" or told.count(".") % 3 == 0)
            need(part != "T" or int(told) < 2 ** 16)
            numbers = [int(number) for number in told.split()] if part == "N" else []
            need(len(numbers) <= 300 and max(numbers, default=0) < 256)
        self.open.pop()
        if word in ("put", "change"):
            self.open.append(["oneentry"])
        if word == "chain":
            self.open.append(["onetable"])


def first_wrong(text, begin, known=(1, 2, 3, 4, 5, 6)):
    """The number of the first line that can't stand there; None of a text that is whole. Begin is order or deed."""
    pile = Pile(known, begin == "order")
    pile.open.append([begin])
    lines = text.splitlines(keepends=True)
    for at, line in enumerate(lines):
        try:
            need(line.endswith("\n"))
            pile.take(line[:-1])
        except Wrong:
            return at
    is_whole = not pile.open if begin == "deed" else len(pile.open) == 1 and pile.open[0][0] == "chain"
    return None if is_whole else len(lines)
