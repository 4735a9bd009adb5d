"""What is whole in any file, and what is lost."""

from tornentries.errors import Spoilt
from tornentries.kinds import KNOWN, has_chains, has_pieces
from tornentries.reading import LOST, Reading, head_of


def saved(file, *, known=KNOWN):
    """What is whole of the file."""
    return _gone_through(file, known)[0]


def losses(file, *, known=KNOWN):
    """What is lost of the file, in the order in which it is met."""
    return _gone_through(file, known)[1]


def _gone_through(file, known):
    try:
        order, root = head_of(file)
    except Spoilt as error:
        return (LOST, error.why), [(error.why, error.path, error.number)]
    reading = Reading(file, order, known, True)
    reading.begin(root)
    return reading.tree_read, reading.losses


def is_part(some, tree, *, known=KNOWN):
    """Whether all that is saved, but what is lost, stands in the tree."""
    if _is_lost(some):
        return True
    return some[0] == tree[0] and _is_part_of_chain(some[1], tree[1], known)


def _is_lost(thing):
    """Whether something saved is what stands in the place of what is lost."""
    return thing[:1] == (LOST,)


def _is_part_of_chain(some, chain, known):
    whole = some
    if len(some) > 0 and _is_lost(some[-1]):
        whole = some[:-1]
        if len(chain) < len(some):
            return False
    elif len(chain) != len(some):
        return False
    return all([_is_part_of_table(table, other, known) for table, other in zip(whole, chain)])


def _is_part_of_table(some, table, known):
    if len(some) != len(table):
        return False
    return all([_is_part_of_entry(entry, other, known) for entry, other in zip(some, table)])


def _is_part_of_entry(some, entry, known):
    tag, kind, worths = some
    if (tag, kind) != entry[:2]:
        return False
    if _is_lost(worths):
        return True
    if not has_chains(kind, known) and not has_pieces(kind, known):
        return worths == entry[2]
    if len(worths) != len(entry[2]):
        return False
    if has_pieces(kind, known):
        return all([_is_lost(piece) or piece == other for piece, other in zip(worths, entry[2])])
    return all([_is_part_of_chain(chain, other, known) for chain, other in zip(worths, entry[2])])
