"""Worths of entries, and how they stand in cells."""

from tornentries.cells import BYTE, CELL, cells_for
from tornentries.kinds import KNOWN, PIECES, TEXT, is_sign, sign_of, width
from tornentries.numbers import number_in, written
from tornentries.whole import are_within

MOST_WORTHS = 300
GREATEST = {1: 255, 2: 65535, 3: 4294967295}


def is_worths(kind, thing, *, known=KNOWN):
    """Whether this is worths of the kind, of anything; chains, kind 5, are left to trees."""
    if kind not in known:
        return _are_raw(kind, thing)
    if kind == TEXT:
        return _is_text(thing)
    if kind == PIECES:
        return _are_pieces(thing)
    return are_within(thing, 0, GREATEST[kind]) and len(thing) <= MOST_WORTHS


def _are_raw(kind, thing):
    if not are_within(thing, 0, BYTE):
        return False
    return len(thing) % width(kind) == 0 and len(thing) // width(kind) <= MOST_WORTHS


def _is_text(thing):
    return isinstance(thing, str) and len(thing) <= MOST_WORTHS and all([is_sign(sign) for sign in thing])


def _are_pieces(thing):
    if not isinstance(thing, tuple) or len(thing) > MOST_WORTHS:
        return False
    return all([is_piece(piece) for piece in thing])


def is_piece(thing):
    """Whether this is a piece, of anything."""
    return are_within(thing, 0, BYTE) and len(thing) <= MOST_WORTHS


def packed(order, kind, worths, *, known=KNOWN):
    """The cells in which these worths stand, filled up with 0."""
    numbers = _numbers_of(order, kind, worths, known)
    many = cells_for(len(numbers))
    numbers.extend([0] * (CELL * many - len(numbers)))
    return tuple([tuple(numbers[CELL * cell:CELL * cell + CELL]) for cell in range(many)])


def _numbers_of(order, kind, worths, known):
    if kind not in known:
        return list(worths)
    if kind == TEXT:
        return [ord(sign) for sign in worths]
    return [part for worth in worths for part in written(order, worth, width(kind))]


def unpacked(order, kind, count, cells, *, known=KNOWN):
    """So many worths, read back from cells that have them, or more."""
    wide = width(kind)
    numbers = [number for cell in cells for number in cell][:count * wide]
    if kind not in known:
        return tuple(numbers)
    if kind == TEXT:
        return "".join([sign_of(number) for number in numbers])
    return tuple([number_in(order, numbers[at:at + wide]) for at in range(0, count * wide, wide)])
