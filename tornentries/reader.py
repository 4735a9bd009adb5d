"""Trees and deeds read back from texts.

Each line is held against all that is asked of it when it is reached: so a text is refused by the first line that no
text which could be written has there.
"""

from tornentries.deeds import PARTS, is_deed_part
from tornentries.errors import NoText
from tornentries.kinds import KNOWN, MOST_KIND, PIECES, TABLES, TEXT
from tornentries.trees import MOST_DEEP, MOST_ENTRIES, MOST_TABLES, ORDERS
from tornentries.whole import is_within
from tornentries.words import number_of, numbers_of, path_of
from tornentries.worths import MOST_WORTHS, is_piece, is_worths


def read_tree(text, *, known=KNOWN):
    """The tree that the text writes."""
    lines = Lines(text, known, True)
    orders = [order for order in ORDERS if lines.current() == "order " + order]
    lines.need(len(orders) == 1)
    lines.pass_by()
    tables = []
    while not lines.is_at_end():
        tables.append(_table(lines, len(tables), MOST_DEEP))
    return orders[0], tuple(tables)


def read_deed(text):
    """The deed that the text writes."""
    lines = Lines(text, KNOWN, False)
    word = lines.word()
    lines.need(word in PARTS)
    parts = _parts_in_line(lines, PARTS[word])
    lines.pass_by()
    if PARTS[word][-1] == "entry":
        parts.append(_entry(lines, 0, MOST_DEEP - 1))
    if PARTS[word][-1] == "table":
        parts.append(_table(lines, 0, MOST_DEEP))
    lines.need(lines.is_at_end())
    return (word,) + tuple(parts)


class Lines:
    """The lines of a text, of which one is the next; for some known kinds, with raw entries or without."""

    def __init__(self, text, known, takes_raw):
        if not isinstance(text, str):
            raise NoText(None)
        self.known = known
        self.takes_raw = takes_raw
        self.lines = text.split("\n")
        self.rest = self.lines.pop()
        self.at = 0

    def current(self):
        """The next line, which must be there, with its line end."""
        self.need(self.at < len(self.lines))
        return self.lines[self.at]

    def word(self):
        """The first word of the next line."""
        return self.current().partition(" ")[0]

    def further(self):
        """The words of the next line behind the first one."""
        return self.current().split(" ")[1:]

    def need(self, holds):
        """Refuses the next line, where this doesn't hold of it."""
        if not holds:
            raise NoText(self.at)

    def pass_by(self):
        """Goes behind the next line."""
        self.at += 1

    def is_at_end(self):
        """Whether no line is left, with a line end or without."""
        return self.at == len(self.lines) and self.rest == ""


def _parts_in_line(lines, parts):
    """Those parts of a deed that stand in its first line."""
    words = lines.further()
    single = [part for part in parts if part in ("path", "tag", "k")]
    many = len(single)
    has_piece = "piece" in parts
    lines.need(len(words) == many or (has_piece and len(words) > many))
    told = [_read_word(part, word) for part, word in zip(single, words)]
    if has_piece:
        told.append(numbers_of(words[many:]))
    lines.need(all([is_deed_part(part, thing, KNOWN) for part, thing in zip(parts, told)]))
    return told


def _read_word(part, word):
    return path_of(word) if part == "path" else number_of(word)


# In these, deep is how many chains that have a table may still stand in one another.


def _chain(lines, deep):
    """The tables from the next line on, up to the end of their chain."""
    tables = []
    while lines.current() != "done":
        tables.append(_table(lines, len(tables), deep))
    lines.pass_by()
    return tuple(tables)


def _table(lines, ahead, deep):
    """The table from the next line on, with so many ahead of it in its chain."""
    lines.need(lines.current() == "table" and ahead < MOST_TABLES and deep > 0)
    lines.pass_by()
    entries = []
    least = 0
    while lines.current() != "end":
        lines.need(len(entries) < MOST_ENTRIES)
        entries.append(_entry(lines, least, deep - 1))
        least = entries[-1][0] + 1
    lines.pass_by()
    return tuple(entries)


def _entry(lines, least, deep):
    """The entry from the next line on, of a tag that isn't below the least one."""
    word = lines.word()
    lines.need(word in ENTRY_ACTIONS)
    action = ENTRY_ACTIONS[word]
    return action(lines, least, deep)


def _read_numbers(lines, least, _):
    numbers = numbers_of(lines.further())
    lines.need(numbers is not None and len(numbers) >= 2)
    tag, kind = numbers[:2]
    lines.need(is_within(tag, least, MOST_KIND) and _is_kind_of_numbers(lines, kind))
    lines.need(is_worths(kind, numbers[2:], known=lines.known))
    lines.pass_by()
    return tag, kind, numbers[2:]


def _is_kind_of_numbers(lines, kind):
    """Whether worths of the kind stand as numbers behind it."""
    if kind in lines.known:
        return kind not in (TEXT, TABLES, PIECES)
    return lines.takes_raw and kind <= MOST_KIND


def _read_text(lines, least, _):
    word, blank, signs = lines.current().partition(" ")[2].partition(" ")
    tag = number_of(word)
    lines.need(TEXT in lines.known and is_within(tag, least, MOST_KIND))
    lines.need(blank == " " and is_worths(TEXT, signs, known=lines.known))
    lines.pass_by()
    return tag, TEXT, signs


def _read_chains(lines, least, deep):
    tag = _tag_alone(lines, least, TABLES)
    chains = []
    while lines.current() != "end":
        lines.need(lines.current() == "chain" and len(chains) < MOST_WORTHS)
        lines.pass_by()
        chains.append(_chain(lines, deep))
    lines.pass_by()
    return tag, TABLES, tuple(chains)


def _read_pieces(lines, least, _):
    tag = _tag_alone(lines, least, PIECES)
    pieces = []
    while lines.current() != "end":
        piece = numbers_of(lines.further())
        lines.need(lines.word() == "piece" and len(pieces) < MOST_WORTHS and is_piece(piece))
        lines.pass_by()
        pieces.append(piece)
    lines.pass_by()
    return tag, PIECES, tuple(pieces)


def _tag_alone(lines, least, kind):
    """The tag of an entry of a known kind, whose line has nothing else."""
    numbers = numbers_of(lines.further())
    lines.need(kind in lines.known and numbers is not None and len(numbers) == 1)
    lines.need(is_within(numbers[0], least, MOST_KIND))
    lines.pass_by()
    return numbers[0]


ENTRY_ACTIONS = {"entry": _read_numbers, "text": _read_text, "chains": _read_chains, "pieces": _read_pieces}
