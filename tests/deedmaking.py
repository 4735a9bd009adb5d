"""Deeds drawn for a tree, most of which can be done on it."""

from tests.drawing import drawn_entry, drawn_table, wanted
from tests.writing import some_numbers


MOST_BROUGHT = 80


def paths_in(chain, start=(), known=(1, 2, 3, 4, 5, 6)):
    """The paths of all tables."""
    found = []
    for n, table in enumerate(chain):
        found.append(start + (n,))
        for tag, kind, worths in table:
            if kind == 5 and kind in known:
                for k, inner in enumerate(worths):
                    found += paths_in(inner, start + (n, tag, k), known)
    return found


def places_in(chain, start=(), known=(1, 2, 3, 4, 5, 6)):
    """The paths at which a table may come into a chain."""
    found = [start + (n,) for n in range(len(chain) + 1)] if len(start) < 10 else []
    for n, table in enumerate(chain):
        for tag, kind, worths in table:
            if kind == 5 and kind in known:
                for k, inner in enumerate(worths):
                    found += places_in(inner, start + (n, tag, k), known)
    return found


def drawn_deed(row, tree, known=(1, 2, 3, 4, 5, 6)):
    """A deed of any word, in some table of the tree if it has one."""
    paths = paths_in(tree[1], (), known)
    word = ("put", "put", "change", "out", "share", "piece", "chain", "cut")[row.below(8)]
    if word == "chain" or not paths:
        places = places_in(tree[1], (), known)
        path = places[row.below(len(places))]
        return "chain", path, brought_table(row, path, known)
    path = paths[row.below(len(paths))]
    if word == "cut":
        return word, path
    table = table_of(tree, path)
    tags = [entry[0] for entry in table] or [row.below(60000)]
    tag = tags[row.below(len(tags))]
    if word == "put":
        return word, path, brought_entry(row, path, fresh_tag(row, tags), known)
    if word == "change":
        return word, path, near_entry(row, path, table, tag, known)
    if word == "out":
        return word, path, tag
    if word == "share":
        start = paths[row.below(len(paths))]
        others = [entry[0] for entry in table_of(tree, start)] or [7]
        return word, path, fresh_tag(row, tags), start, others[row.below(len(others))]
    pieced = [entry for entry in table if entry[1] == 6 and entry[2]]
    if pieced:
        tag, _, pieces = pieced[row.below(len(pieced))]
        return word, path, tag, row.below(len(pieces)), some_numbers(row, row.below(9))
    return word, path, tag, 0, ()


def table_of(tree, path):
    chain = tree[1]
    for at in range(1, len(path), 3):
        entry = [entry for entry in chain[path[at - 1]] if entry[0] == path[at]][0]
        chain = entry[2][path[at + 1]]
    return chain[path[-1]]


def fresh_tag(row, tags):
    return max(tags) + 1 + row.below(9) if row.below(2) else row.below(60000)


def brought_entry(row, path, tag, known):
    """An entry of known kinds, whose chains don't stand too deep at the path."""
    for _ in range(40):
        entry = drawn_entry(row, tag, deep_at(path), False)
        if is_known((entry,), known) and wanted(((entry,),)) <= MOST_BROUGHT:
            return entry
    return tag, known[0], "" if known[0] == 4 else ()


def brought_table(row, path, known):
    for _ in range(40):
        table = drawn_table(row, deep_at(path), False)
        if is_known(table, known) and wanted((table,)) <= MOST_BROUGHT:
            return table
    return ()


def deep_at(path):
    """How deep chains may stand in a table of this path."""
    return 4 - (len(path) + 2) // 3


def near_entry(row, path, table, tag, known):
    """An entry in the place of that of the tag: with something of the elder one, or with nothing."""
    elder = [entry for entry in table if entry[0] == tag]
    if elder and elder[0][1] in known and row.below(2):
        _, kind, worths = elder[0]
        if kind in (1, 2, 3):
            return tag, kind, tuple([(worth + row.below(3)) % 256 for worth in worths])
        if kind == 4:
            return tag, kind, worths.replace("A", "B")
        if kind == 6:
            return tag, kind, worths[::-1]
        if is_known(((tag, kind, worths[::-1]),), known):
            return tag, kind, worths[::-1]
    return brought_entry(row, path, tag, known)


def is_known(table, known):
    """Whether all kinds in the table are known."""
    for _, kind, worths in table:
        if kind not in known or (kind == 5 and not all([is_known(inner, known) for chain in worths for inner in chain])):
            return False
    return True
