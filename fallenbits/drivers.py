"""Drivers: lists of rules that tell which write to do."""

from fallenbits.errors import NoDriver
from fallenbits.patterns import bits_of, is_number, need_sizes
from fallenbits.stores import is_mask, is_name, matches
from fallenbits.writes import are_bits, has_fallen, is_pair

MOST_ROWS = 1100


def can_be_write(thing, sizes):
    """Tell whether thing is written like a write of some pattern of the sizes."""
    if not is_pair(thing):
        return False
    word, what = thing
    if word == "fall":
        return are_bits(what, sum(sizes))
    return word == "erase" and is_number(what, len(sizes))


def is_row(thing, sizes):
    """Tell whether thing is a tuple of a mask, a wish and a write."""
    if not isinstance(thing, tuple) or len(thing) != 3:
        return False
    mask, wish, write = thing
    if not is_mask(mask, sizes) or not can_be_write(write, sizes):
        return False
    return is_name(wish) or wish == ""


def check_rows(rows, sizes):
    """Raise NoDriver if rows are not the rows of a driver for these sizes."""
    if not isinstance(rows, list):
        raise NoDriver(None)
    for at, row in enumerate(rows):
        if at == MOST_ROWS or not is_row(row, sizes):
            raise NoDriver(at)


def part_due(x, write):
    """Return the write with those of its bits that stand in x, or None if it changes nothing."""
    word, what = write
    if word == "erase":
        return write if has_fallen(x, what) else None
    bits = bits_of(x)
    standing = tuple([bit for bit in what if bits[bit] == "1"])
    return ("fall", standing) if standing else None


class Driver:
    """Rows of a mask, a wish and a write, for a store."""

    def __init__(self, store, rows):
        check_rows(rows, store.sizes)
        self._sizes = store.sizes
        self._rows = list(rows)

    def write_for(self, x, wish):
        """Return the write of the first row that applies, or None."""
        need_sizes(x, self._sizes)
        for mask, row_wish, write in self._rows:
            if row_wish == wish and matches(mask, x):
                due = part_due(x, write)
                if due is not None:
                    return due
        return None

    def rows(self):
        """Return the rows as they were given."""
        return list(self._rows)

    def __len__(self):
        return len(self._rows)
