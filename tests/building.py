"""What the tests share: odd things, and files put together by hand."""

ORDERS = ("small", "great")


def nested(depth, thing=()):
    """Lists and tuples in one another, so many deep."""
    for level in range(depth):
        thing = [thing] if level % 2 else (thing,)
    return thing


ODD = (
    None, True, False, 0, 1, -1, 255, 256, 10 ** 99, -10 ** 99, "", "small", "a b", "\n",
    (), [], {}, (None,), [0], {0: 1}, ((),), ([],), ({},), (0, 0), ((0, 0), (0, 0)),
    ("small",), ("small", []), ("small", ((),), 0), ("small", {}), (True, (0, 0, 0, 0)),
    nested(28), nested(29, 7), {"a": [(), {}]}, tuple(range(300)), [0] * 4000,
)


def number(order, worth, many):
    """The numbers of a whole number, by Python's own means."""
    return tuple(worth.to_bytes(many, "little" if order == "small" else "big"))


def pair(order, one, other):
    return number(order, one, 2) + number(order, other, 2)


def pointer(order, cell):
    return number(order, cell, 4)


def head(order, root):
    return (60, 60, 236, 7) + pointer(order, root) if order == "small" else (62, 62, 7, 236) + pointer(order, root)


def entry(order, tag, kind, count, place):
    """The three cells of an entry; its place as numbers or as a pointer."""
    if isinstance(place, int):
        place = pointer(order, place)
    return pair(order, tag, kind) + pointer(order, count) + tuple(place)


def table(order, room, entries, following=0, junk=171, many=None):
    """The numbers of a table; each entry as (tag, kind, count, place)."""
    numbers = pair(order, len(entries) if many is None else many, room)
    for row in entries:
        numbers += entry(order, *row)
    numbers += (junk,) * (12 * (room - len(entries)))
    return numbers + pointer(order, following)


def pointers(order, *cells):
    numbers = ()
    for cell in cells:
        numbers += pointer(order, cell)
    return numbers


def piece(order, numbers, junk=171):
    return pointer(order, len(numbers)) + filled(numbers, junk)


def filled(numbers, junk=171):
    """The numbers, filled up to whole cells."""
    return tuple(numbers) + (junk,) * (-len(numbers) % 4)


def laid(order, root, parts, junk=171, cells=0):
    """A file with these parts, each at its first cell; what stands between them is junk."""
    long = max([8, 4 * cells] + [4 * first + len(numbers) for first, numbers in parts.items()])
    file = [junk] * long
    file[:8] = head(order, root)
    for first, numbers in parts.items():
        assert len(numbers) % 4 == 0
        file[4 * first:4 * first + len(numbers)] = numbers
    return tuple(file)


def variants(thing):
    """Things that are this one but for one thing in it, at each place."""
    if isinstance(thing, (tuple, list)):
        kind, other = (tuple, list) if isinstance(thing, tuple) else (list, tuple)
        yield other(thing)
        yield kind(list(thing) + [0])
        for at, part in enumerate(thing):
            rest = list(thing[:at]), list(thing[at + 1:])
            yield kind(rest[0] + rest[1])
            yield kind(rest[0] + [part, part] + rest[1])
            for fresh in variants(part):
                yield kind(rest[0] + [fresh] + rest[1])
    elif isinstance(thing, int):
        yield from (thing + 1, thing - 1, None, str(thing), (thing,))
        if thing in (0, 1):
            yield thing == 1
    elif isinstance(thing, str):
        yield from (thing + "x", thing[:-1], None, 0)
    else:
        yield from (0, (), "")
