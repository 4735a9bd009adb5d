"""Deeds on trees."""

from tornentries.errors import NoDeed, NoPiece, NoShare, NoTable, NoTag, Taken, TooDeep, TooMany
from tornentries.kinds import KNOWN, MOST_KIND, has_chains, has_pieces
from tornentries.trees import MOST_DEEP, MOST_ENTRIES, MOST_TABLES
from tornentries.trees import chain_of, entries_within, entry_of, is_entry, is_path, is_table, table_at
from tornentries.whole import is_whole, is_within
from tornentries.worths import is_piece

# What the parts of each deed are, behind its word.
PARTS = {
    "put": ("path", "entry"),
    "change": ("path", "entry"),
    "out": ("path", "tag"),
    "share": ("path", "tag", "path", "tag"),
    "piece": ("path", "tag", "k", "piece"),
    "chain": ("path", "table"),
    "cut": ("path",),
}


def is_deed(thing, *, known=KNOWN):
    """Whether this is a deed, of anything."""
    if not isinstance(thing, tuple) or len(thing) == 0 or not isinstance(thing[0], str):
        return False
    parts = PARTS.get(thing[0])
    if parts is None or len(parts) != len(thing) - 1:
        return False
    return all([is_deed_part(part, worth, known) for part, worth in zip(parts, thing[1:])])


def is_deed_part(part, thing, known):
    """Whether this may be such a part of a deed, of anything."""
    if part == "path":
        return is_path(thing)
    if part == "tag":
        return is_within(thing, 0, MOST_KIND)
    if part == "k":
        return is_whole(thing) and thing >= 0
    if part == "piece":
        return is_piece(thing)
    if part == "entry":
        return is_entry(thing, known=known) and _are_known((thing,), known)
    return is_table(thing, known=known) and _are_known(thing, known)


def _are_known(table, known):
    """Whether all entries of the table, those within them too, are of known kinds."""
    return all([entry[1] in known for _, entry in entries_within((table,), (), known)])


def done(tree, deed, *, known=KNOWN):
    """The tree behind the deed."""
    if not is_deed(deed, known=known):
        raise NoDeed()
    order, chain = tree
    word, path = deed[:2]
    if word == "chain":
        fresh = _chain_done(tree, deed, known)
    elif word == "cut":
        fresh = _cut_done(tree, deed, known)
    else:
        fresh = _table_done(tree, deed, known)
    return order, _with_chain(chain, path, fresh)


def _with_chain(chain, path, fresh):
    """The chain with a fresh one in it, in the place of that in which the last number of the path counts."""
    if len(path) == 1:
        return fresh
    n, tag, k = path[:3]
    _, kind, chains = entry_of(chain[n], tag)
    inner = _with_chain(chains[k], path[3:], fresh)
    table = _with_entry(chain[n], (tag, kind, _with_item(chains, k, inner)))
    return _with_item(chain, n, table)


def _with_item(row, n, fresh):
    return row[:n] + (fresh,) + row[n + 1:]


def _with_entry(table, fresh):
    """The table with this entry, in the place of the one of its tag if there is one."""
    ahead = tuple([entry for entry in table if entry[0] < fresh[0]])
    behind = tuple([entry for entry in table if entry[0] > fresh[0]])
    return ahead + (fresh,) + behind


def _chain_done(tree, deed, known):
    """The chain of the path, with the table in it."""
    _, path, table = deed
    chain = chain_of(tree, path, known)
    n = path[-1]
    if chain is None or n > len(chain):
        raise NoTable(path)
    if len(chain) == MOST_TABLES:
        raise TooMany()
    _refuse_deep(path, table, known)
    return chain[:n] + (table,) + chain[n:]


def _cut_done(tree, deed, known):
    """The chain of the path, without the table."""
    path = deed[1]
    table_at(tree, path, known=known)
    chain = chain_of(tree, path, known)
    return chain[:path[-1]] + chain[path[-1] + 1:]


def _table_done(tree, deed, known):
    """The chain of the path, with its table as the deed leaves it."""
    word, path = deed[:2]
    table = table_at(tree, path, known=known)
    action = TABLE_ACTIONS[word]
    return _with_item(chain_of(tree, path, known), path[-1], action(tree, table, deed, known))


def _put(_, table, deed, known):
    entry = deed[2]
    _refuse_more(table, entry[0])
    _refuse_deep(deed[1], (entry,), known)
    return _with_entry(table, entry)


def _change(_, table, deed, known):
    entry = deed[2]
    _entry_asked(table, entry[0])
    _refuse_deep(deed[1], (entry,), known)
    return _with_entry(table, entry)


def _out(_, table, deed, known):
    tag = deed[2]
    _entry_asked(table, tag)
    return tuple([entry for entry in table if entry[0] != tag])


def _share(tree, table, deed, known):
    tag, start, other = deed[2:]
    _, kind, worths = _entry_asked(table_at(tree, start, known=known), other)
    if kind not in known or has_chains(kind, known):
        raise NoShare()
    _refuse_more(table, tag)
    return _with_entry(table, (tag, kind, worths))


def _piece(_, table, deed, known):
    tag, k, piece = deed[2:]
    _, kind, pieces = _entry_asked(table, tag)
    if not has_pieces(kind, known):
        raise NoTag(tag)
    if k >= len(pieces):
        raise NoPiece(k)
    return _with_entry(table, (tag, kind, _with_item(pieces, k, piece)))


def _entry_asked(table, tag):
    entry = entry_of(table, tag)
    if entry is None:
        raise NoTag(tag)
    return entry


def _refuse_more(table, tag):
    """Refuses a further entry of the tag where the tag is taken or the table is full."""
    if entry_of(table, tag) is not None:
        raise Taken(tag)
    if len(table) == MOST_ENTRIES:
        raise TooMany()


def _refuse_deep(path, table, known):
    """Refuses entries that come into the chain of the path where their chains would stand too deep there."""
    if (len(path) + 2) // 3 + _depth_of(table, known) > MOST_DEEP:
        raise TooDeep()


def _depth_of(table, known):
    """How many chains that have a table stand in one another in the table."""
    chains = [chain for _, kind, worths in table if has_chains(kind, known) for chain in worths]
    return max([1 + _depth_of(inner, known) for chain in chains for inner in chain], default=0)


TABLE_ACTIONS = {"put": _put, "change": _change, "out": _out, "share": _share, "piece": _piece}
