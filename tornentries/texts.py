"""Trees and deeds written as texts."""

from tornentries.deeds import PARTS
from tornentries.kinds import KNOWN, has_chains, has_pieces, has_text
from tornentries.words import lines_of, path_word, words_of


def show_tree(tree, *, known=KNOWN):
    """The text of the tree."""
    order, chain = tree
    return lines_of(["order " + order] + _chain_lines(chain, known))


def show_deed(deed):
    """The text of the deed."""
    words = [deed[0]]
    lines = []
    for part, thing in zip(PARTS[deed[0]], deed[1:]):
        if part == "path":
            words.append(path_word(thing))
        elif part == "entry":
            lines = _entry_lines(thing, KNOWN)
        elif part == "table":
            lines = _table_lines(thing, KNOWN)
        elif part == "piece":
            words.extend(thing)
        else:
            words.append(thing)
    return lines_of([words_of(words)] + lines)


def _chain_lines(chain, known):
    return [line for table in chain for line in _table_lines(table, known)]


def _table_lines(table, known):
    return ["table"] + [line for entry in table for line in _entry_lines(entry, known)] + ["end"]


def _entry_lines(entry, known):
    tag, kind, worths = entry
    if has_text(kind, known):
        return [f"text {tag} {worths}"]
    if has_chains(kind, known):
        lines = [line for chain in worths for line in ["chain"] + _chain_lines(chain, known) + ["done"]]
        return [f"chains {tag}"] + lines + ["end"]
    if has_pieces(kind, known):
        return [f"pieces {tag}"] + [words_of(("piece",) + piece) for piece in worths] + ["end"]
    return [words_of(("entry", tag, kind) + worths)]
