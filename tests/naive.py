"""Deeds done in the plainest way, on lists in the place of tuples."""


def opened(thing):
    return [opened(part) for part in thing] if isinstance(thing, tuple) else thing


def closed(thing):
    return tuple([closed(part) for part in thing]) if isinstance(thing, list) else thing


def chain_at(chain, path):
    """The list of tables in which the last number of the path counts."""
    for at in range(1, len(path), 3):
        entry = [entry for entry in chain[path[at - 1]] if entry[0] == path[at]][0]
        chain = entry[2][path[at + 1]]
    return chain


def naively_done(tree, deed):
    """The tree behind a deed that can be done."""
    order, chain = opened(tree)
    parts = opened(deed)
    word, path = deed[:2]
    tables = chain_at(chain, path)
    if word == "chain":
        tables.insert(path[-1], parts[2])
    elif word == "cut":
        del tables[path[-1]]
    else:
        rows = tables[path[-1]]
        change_rows(chain, rows, word, parts)
        rows.sort(key=lambda entry: entry[0])
    return order, closed(chain)


def change_rows(chain, rows, word, parts):
    if word in ("put", "change"):
        rows[:] = [entry for entry in rows if entry[0] != parts[2][0]] + [parts[2]]
    elif word == "out":
        rows[:] = [entry for entry in rows if entry[0] != parts[2]]
    elif word == "share":
        _, _, tag, start, other = parts
        mate = [entry for entry in chain_at(chain, start)[start[-1]] if entry[0] == other][0]
        rows.append([tag, mate[1], mate[2]])
    else:
        _, _, tag, k, piece = parts
        [entry for entry in rows if entry[0] == tag][0][2][k] = piece
