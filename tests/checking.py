"""What strokes of a deed must be, asked of a file, the deed and the strokes alone."""

from tests.walking import Walk
from tornentries.cells import is_stroke, stroked
from tornentries.cuts import lets_strokes, torn
from tornentries.deeds import done
from tornentries.reading import read
from tornentries.strokes import strokes_of

KNOWN = (1, 2, 3, 4, 5, 6)
DEFAULT_ROOM = 2


def check_strokes(test, file, deed, known=KNOWN, kept=(), room=None):
    """Asks for the strokes of a deed that isn't refused, holds them against all that is promised, and tells them."""
    told = {} if room is None else {"room": room}
    tree = read(file, known=known)
    aim = done(tree, deed, known=known)
    elder = (tuple(file), tuple(kept))
    strokes = strokes_of(file, deed, known=known, kept=kept, **told)
    test.assertEqual((file, kept), elder)
    test.assertIs(type(strokes), list)
    test.assertTrue(all([is_stroke(stroke) for stroke in strokes]), strokes)
    if aim == tree:
        test.assertEqual(strokes, [])
        return strokes
    walk = Walk(file, known)
    check_places(test, walk, strokes, kept)
    for many in range(len(strokes)):
        test.assertEqual(read(torn(file, strokes, many), known=known), tree)
    fresh = stroked(file, strokes)
    test.assertEqual(torn(file, strokes, len(strokes)), fresh)
    test.assertEqual(read(fresh, known=known), aim)
    test.assertIs(lets_strokes(file, deed, strokes, known=known, kept=kept), True)
    check_rooms(test, walk, Walk(fresh, known), deed, DEFAULT_ROOM if room is None else room)
    check_few(test, walk, fresh, deed, strokes, kept)
    check_length(test, walk, fresh, strokes, kept)
    return strokes


def check_places(test, walk, strokes, kept):
    """Where strokes may be."""
    end = len(walk.file) // 4
    free = set(walk.spare()) | set(walk.unused()) | set(range(end, 1000))
    for cell, _ in strokes[:-1]:
        test.assertIn(cell, free)
        test.assertNotIn(cell, kept)
    if strokes[-1][0] != 1:
        test.assertNotIn(strokes[-1][0], kept)


def check_rooms(test, elder, fresh, deed, room):
    """Tables laid anew: the deed's own has so much room more, each other one no more than it had."""
    own = None if deed[0] in ("chain", "cut") else deed[1]
    for path, (first, many, wide) in fresh.tables.items():
        if path == own:
            if elder.tables[path][0] == first:
                test.assertEqual(wide, elder.tables[path][2])
            else:
                test.assertEqual(wide, min(40, many + room))
        else:
            before = elder.tables.get(moved_from(path, deed))
            brought = before is None or is_within(path, deed)
            test.assertLessEqual(wide, many if brought else before[2], (path, deed))


def moved_from(path, deed):
    """Which path the table of this one had ahead of the deed; None of the one that came."""
    start, n = deed[1][:-1], deed[1][-1]
    at = len(start)
    if deed[0] in ("chain", "cut") and path[:at] == start and len(path) > at:
        if deed[0] == "cut" and path[at] >= n:
            return start + (path[at] + 1,) + path[at + 1:]
        if deed[0] == "chain" and path[at] == n:
            return None
        if deed[0] == "chain" and path[at] > n:
            return start + (path[at] - 1,) + path[at + 1:]
    return path


def is_within(path, deed):
    """Whether the table of the path came with the entry of the deed."""
    if deed[0] not in ("put", "change"):
        return False
    start = deed[1] + (deed[2][0],)
    return path[:len(start)] == start and len(path) > len(start)


def check_few(test, walk, fresh, deed, strokes, kept):
    """Where just some few strokes must do."""
    word, path = deed[:2]
    cells = [cell for cell, _ in strokes]
    if word in ("cut", "chain"):
        pointer = walk.pointers[path]
        if pointer not in kept:
            test.assertEqual(cells[-1], pointer)
            test.assertTrue(word == "chain" or len(cells) == 1)
        return
    first, many, room = walk.tables[path]
    own = range(first, first + 2 + 3 * room)
    is_kept = any([cell in kept for cell in own])
    tags = [tag for where, tag in walk.entries if where == path]
    if word in ("put", "share") and many < room and not is_kept:
        tag = deed[2][0] if word == "put" else deed[2]
        if all([tag > other for other in tags]):
            test.assertEqual(cells[-1], first)
            test.assertTrue(word == "put" or len(cells) <= 4)
            later = Walk(fresh, walk.known)
            for other, at in walk.pointers.items():
                test.assertEqual(later.pointers[other], at)
                test.assertEqual(later.cell(at), walk.cell(at))
            for other, table in walk.tables.items():
                test.assertEqual(later.tables[other][::2], table[::2])
    if word == "out" and deed[2] == max(tags) and not is_kept:
        test.assertEqual(cells, [first])
    if word == "change" and not is_kept:
        check_change(test, walk, deed, cells)
    check_raw_rows(test, walk, Walk(fresh, walk.known), deed)
    if word == "share":
        check_share(test, walk, Walk(fresh, walk.known), deed, strokes)


def check_change(test, walk, deed, cells):
    """A worth that stands in its entry's cell, changed to as many of its kind."""
    _, path, (tag, kind, worths) = deed
    at = walk.entries[(path, tag)]
    inside = len(worths) * {1: 1, 2: 2, 3: 4, 4: 1, 5: 9, 6: 9}[kind] <= 4
    if inside and kind <= 4 and walk.pair(at)[1] == kind and walk.number(at + 1) == len(worths):
        test.assertEqual(cells, [at + 2])


def check_raw_rows(test, elder, fresh, deed):
    """Raw entries stand as they stood; in all tables, as none of them are written otherwise."""
    gone = (deed[1], deed[2][0] if deed[0] == "change" else deed[2])
    for (path, tag), at in elder.entries.items():
        inner = path[:len(deed[1])] == deed[1] and path[len(deed[1]):len(deed[1]) + 1] == (gone[1],)
        if elder.pair(at)[1] not in elder.known and (path, tag) != gone and not inner:
            later = fresh.entries[(path, tag)]
            for k in range(3):
                test.assertEqual(fresh.cell(later + k), elder.cell(at + k))


def check_share(test, elder, fresh, deed, strokes):
    """The two have the same cells elsewhere."""
    _, path, tag, start, other = deed
    test.assertEqual(fresh.lists.get((path, tag)), elder.lists.get((start, other)))
    one, mate = fresh.entries[(path, tag)], elder.entries[(start, other)]
    test.assertEqual(fresh.number(one + 1), elder.number(mate + 1))
    if (start, other) in elder.lists or elder.pair(mate)[1] == 6:
        test.assertEqual(fresh.cell(one + 2), elder.cell(mate + 2))


def check_length(test, walk, fresh, strokes, kept):
    """The file isn't longer where a spare stretch that isn't kept has room for all."""
    for first, many, sort, _ in walk.map():
        if sort == "spare" and many >= len(strokes) and not any([cell in kept for cell in range(first, first + many)]):
            test.assertEqual(len(fresh), len(walk.file))
