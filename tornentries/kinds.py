"""Kinds of entries: which are known, how wide they are, which signs a text has."""

from tornentries.whole import are_within, is_rising

KNOWN = (1, 2, 3, 4, 5, 6)
TEXT = 4
TABLES = 5
PIECES = 6
MOST_KIND = 65535

WIDTHS = (1, 2, 4, 1, 4, 4)
RAW_WIDTHS = (1, 2, 4)

# Rows of signs that stand side by side: the number of the first one, and the signs.
SIGN_ROWS = (
    (32, " "),
    (45, "-."),
    (48, "0123456789"),
    (65, "ABCDEFGHIJKLMNOPQRSTUVWXYZ"),
    (97, "abcdefghijklmnopqrstuvwxyz"),
)


def is_known(thing):
    """Whether this is a rising tuple of some of the six kinds, of anything."""
    return are_within(thing, 1, len(KNOWN)) and is_rising(thing)


def width(kind):
    """In how many numbers a worth of this kind stands."""
    if kind in KNOWN:
        return WIDTHS[kind - 1]
    return RAW_WIDTHS[kind % 3]


def has_chains(kind, known):
    """Whether worths of the kind are chains to who knows these kinds."""
    return kind == TABLES and kind in known


def has_pieces(kind, known):
    """Whether worths of the kind are pieces to who knows these kinds."""
    return kind == PIECES and kind in known


def has_text(kind, known):
    """Whether worths of the kind are a text to who knows these kinds."""
    return kind == TEXT and kind in known


def sign_of(number):
    """The sign that has this number in a file, or None."""
    for first, signs in SIGN_ROWS:
        if first <= number < first + len(signs):
            return signs[number - first]
    return None


def is_sign(sign):
    """Whether a text of kind 4 may have this sign."""
    return sign_of(ord(sign)) is not None
