"""Ways to entries: rows that a machine goes by."""

from tornentries.errors import NoWay
from tornentries.kinds import MOST_KIND
from tornentries.whole import is_whole, is_within

# Which words may stand in the row ahead of each word's; root stands behind none.
AHEAD = {
    "root": (),
    "next": ("root", "next", "into"),
    "find": ("root", "next", "into"),
    "into": ("find",),
    "worth": ("find",),
}


def way_to(path, tag):
    """The rows to the entry of the tag in the table of the path, and to its worths."""
    rows = [("root",)]
    for at in range(0, len(path), 3):
        if at > 0:
            rows.extend([("find", path[at - 2]), ("into", path[at - 1])])
        rows.extend([("next",)] * path[at])
    return rows + [("find", tag), ("worth",)]


def looked(rows):
    """The rows, if they are a way, of anything."""
    if not isinstance(rows, list) or not all([_is_row(row) for row in rows]):
        raise NoWay()
    words = [row[0] for row in rows]
    if words[:1] != ["root"] or not all([ahead in AHEAD[word] for ahead, word in zip(words, words[1:])]):
        raise NoWay()
    return list(rows)


def _is_row(thing):
    if not isinstance(thing, tuple) or len(thing) == 0 or not isinstance(thing[0], str) or thing[0] not in AHEAD:
        return False
    word, parts = thing[0], thing[1:]
    if word == "find":
        return len(parts) == 1 and is_within(parts[0], 0, MOST_KIND)
    if word == "into":
        return len(parts) == 1 and is_whole(parts[0]) and parts[0] >= 0
    return len(parts) == 0
