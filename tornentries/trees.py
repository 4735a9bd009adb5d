"""Trees: chains of tables of entries, told of anything, and paths in them."""

from tornentries.errors import NoTable, NoTag
from tornentries.kinds import KNOWN, MOST_KIND, has_chains
from tornentries.whole import is_rising, is_whole, is_within
from tornentries.worths import MOST_WORTHS, is_worths

ORDERS = ("small", "great")
MOST_ENTRIES = 40
MOST_TABLES = 10
MOST_DEEP = 4
PATH_LENGTHS = (1, 4, 7, 10)


def is_entry(thing, *, known=KNOWN):
    """Whether this is an entry, of anything."""
    return _is_entry(thing, known, MOST_DEEP - 1)


def is_table(thing, *, known=KNOWN):
    """Whether this is a table, of anything."""
    return _is_table(thing, known, MOST_DEEP - 1)


def is_tree(thing, *, known=KNOWN):
    """Whether this is a tree, of anything."""
    if not isinstance(thing, tuple) or len(thing) != 2:
        return False
    return thing[0] in ORDERS and _is_chain(thing[1], known, MOST_DEEP)


# In these, deep is how many chains that have a table may still stand in one another.


def _is_entry(thing, known, deep):
    if not isinstance(thing, tuple) or len(thing) != 3:
        return False
    tag, kind, worths = thing
    if not is_within(tag, 0, MOST_KIND) or not is_within(kind, 0, MOST_KIND):
        return False
    if has_chains(kind, known):
        return _are_chains(worths, known, deep)
    return is_worths(kind, worths, known=known)


def _are_chains(thing, known, deep):
    if not isinstance(thing, tuple) or len(thing) > MOST_WORTHS:
        return False
    return all([_is_chain(chain, known, deep) for chain in thing])


def _is_chain(thing, known, deep):
    if not isinstance(thing, tuple) or len(thing) > MOST_TABLES:
        return False
    if len(thing) > 0 and deep == 0:
        return False
    return all([_is_table(table, known, deep - 1) for table in thing])


def _is_table(thing, known, deep):
    if not isinstance(thing, tuple) or len(thing) > MOST_ENTRIES:
        return False
    if not all([_is_entry(entry, known, deep) for entry in thing]):
        return False
    return is_rising([entry[0] for entry in thing])


def is_path(thing):
    """Whether this is a path, of anything."""
    if not isinstance(thing, tuple) or len(thing) not in PATH_LENGTHS:
        return False
    return all([is_whole(number) and number >= 0 for number in thing])


def chain_of(tree, path, known):
    """The chain in which the last number of the path counts, or None."""
    chain = tree[1]
    for at in range(1, len(path), 3):
        table = _nth(chain, path[at - 1])
        chain = _nth(_chains_of(table, path[at], known), path[at + 1])
    return chain


def table_at(tree, path, *, known=KNOWN):
    """The table to which the path leads."""
    if not is_path(path):
        raise NoTable(None)
    table = _nth(chain_of(tree, path, known), path[-1])
    if table is None:
        raise NoTable(path)
    return table


def entry_at(tree, path, tag, *, known=KNOWN):
    """The entry of the tag in the table to which the path leads."""
    table = table_at(tree, path, known=known)
    if not is_whole(tag):
        raise NoTag(None)
    entry = entry_of(table, tag)
    if entry is None:
        raise NoTag(tag)
    return entry


def entry_of(table, tag):
    """The entry of the tag in the table, or None."""
    for entry in table:
        if entry[0] == tag:
            return entry
    return None


def entries_within(chain, start, known):
    """All entries of the chain, each as its path and itself, in the order of reading.

    Start with a number behind it is the path of a table.
    """
    found = []
    for n, table in enumerate(chain):
        path = start + (n,)
        for entry in table:
            found.append((path, entry))
            tag, kind, worths = entry
            if has_chains(kind, known):
                for k, inner in enumerate(worths):
                    found.extend(entries_within(inner, path + (tag, k), known))
    return found


def _nth(row, n):
    if row is None or n >= len(row):
        return None
    return row[n]


def _chains_of(table, tag, known):
    if table is None:
        return None
    entry = entry_of(table, tag)
    if entry is None or not has_chains(entry[1], known):
        return None
    return entry[2]
