"""Grids, cut into tiles and put together, and kept in entries."""

from tornentries.cells import BYTE
from tornentries.errors import NoGrid
from tornentries.kinds import PIECES
from tornentries.trees import entry_at
from tornentries.whole import are_within

MOST_LONG = 30
MOST_TILE = 65535
SIZE_KIND = 2
# The entries of a grid: how wide and high it is, how wide and high its tiles are, the tiles.
ENTRIES = 5
TILES = 4


def _spans(long, part):
    """How long the parts are into which a length is cut."""
    return [min(part, long - start) for start in range(0, long, part)]


def tiles_of(grid, *, wide, high):
    """The tiles of the grid, from the left, row of tiles by row of tiles."""
    tiles = []
    for top in range(0, len(grid), high):
        for left in range(0, len(grid[0]), wide):
            tiles.append(tuple([number for row in grid[top:top + high] for number in row[left:left + wide]]))
    return tiles


def grid_of(tiles, *, size, wide, high):
    """The grid of this size that has these tiles, of anything as tiles and size."""
    if not are_within(size, 1, MOST_LONG) or len(size) != 2 or not are_within((wide, high), 1, MOST_TILE):
        raise NoGrid()
    columns, rows = _spans(size[0], wide), _spans(size[1], high)
    if not _are_tiles(tiles, columns, rows):
        raise NoGrid()
    grid = []
    for at, many in enumerate(rows):
        band = tiles[at * len(columns):(at + 1) * len(columns)]
        grid.extend([_row_of(band, columns, k) for k in range(many)])
    return tuple(grid)


def _are_tiles(thing, columns, rows):
    """Whether these are tiles that fit into columns and rows of tiles so wide and high, of anything."""
    if not isinstance(thing, (list, tuple)):
        return False
    sizes = [wide * high for high in rows for wide in columns]
    return len(thing) == len(sizes) and all([_is_tile(tile, many) for tile, many in zip(thing, sizes)])


def _is_tile(thing, many):
    return are_within(thing, 0, BYTE) and len(thing) == many


def _row_of(band, columns, k):
    """The k-th row of numbers in a row of tiles."""
    return tuple([number for tile, wide in zip(band, columns) for number in tile[k * wide:(k + 1) * wide]])


def grid_entries(tag, grid, *, wide, high):
    """The entries that the grid is, from the tag on."""
    sizes = (len(grid[0]), len(grid), wide, high)
    entries = [(tag + k, SIZE_KIND, (number,)) for k, number in enumerate(sizes)]
    return entries + [(tag + TILES, PIECES, tuple(tiles_of(grid, wide=wide, high=high)))]


def grid_in(tree, path, tag):
    """The grid that stands in the table of the path, from the tag on."""
    size, wide, high, tiles = _parts_in(tree, path, tag)
    return grid_of(tiles, size=size, wide=wide, high=high)


def _parts_in(tree, path, tag):
    """The size of a grid, how wide and high its tiles are, and its tiles."""
    entries = [entry_at(tree, path, tag)]
    entries.extend([entry_at(tree, path, tag + k) for k in range(1, ENTRIES)])
    numbers = [_size_in(entry) for entry in entries[:TILES]]
    _, kind, tiles = entries[TILES]
    if kind != PIECES:
        raise NoGrid()
    return (numbers[0], numbers[1]), numbers[2], numbers[3], tiles


def _size_in(entry):
    _, kind, worths = entry
    if kind != SIZE_KIND or len(worths) != 1:
        raise NoGrid()
    return worths[0]


def put_grid(path, tag, grid, *, wide, high):
    """The deeds that put the grid into the table of the path, from the tag on."""
    return [("put", path, entry) for entry in grid_entries(tag, grid, wide=wide, high=high)]


def put_number(tree, path, tag, row, column, number):
    """The deeds by which the grid has this number in this place."""
    if grid_in(tree, path, tag)[row][column] == number:
        return []
    size, wide, high, tiles = _parts_in(tree, path, tag)
    columns = _spans(size[0], wide)
    k = row // high * len(columns) + column // wide
    at = row % high * columns[column // wide] + column % wide
    piece = tiles[k][:at] + (number,) + tiles[k][at + 1:]
    return [("piece", path, tag + TILES, k, piece)]
