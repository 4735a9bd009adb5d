"""Files made anew of trees, and trees turned to another order."""

from tornentries.cells import MOST_CELLS
from tornentries.errors import Raw, TooGreat
from tornentries.kinds import KNOWN
from tornentries.laying import Laying, Row, file_of
from tornentries.sheet import HEAD_CELLS
from tornentries.trees import entries_within


def made(tree, *, room=0):
    """A file that reads as the tree, with unused room for so many entries in each table."""
    refuse_raw(tree, KNOWN)
    order, chain = tree
    store = Row()
    root = Laying(order, store, room).chain(chain)
    return file_within(order, root, store.cells)


def turned(tree, order):
    """The tree in this order."""
    if order != tree[0]:
        refuse_raw(tree, KNOWN)
    return order, tree[1]


def refuse_raw(tree, known):
    """Refuses a tree with raw entries by the first of them."""
    for path, entry in entries_within(tree[1], (), known):
        if entry[1] not in known:
            raise Raw(path, entry[0])


def file_within(order, root, cells):
    """The file with this root and these cells, if there aren't too many."""
    if HEAD_CELLS + len(cells) > MOST_CELLS:
        raise TooGreat()
    return file_of(order, root, cells)
