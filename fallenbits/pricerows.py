"""Rows of prices: what a thing, any value, tells of the ranks of patterns, and whether it holds."""

from fallenbits.boxes import box
from fallenbits.ranks import is_rank, not_less, one_less
from fallenbits.writes import end, is_tuple_of, may_write


def is_price_entry(thing, t, rank, has_parts):
    """Tell whether thing is an entry for t of a row with a rank; it tells a rank of its own if it has parts."""
    if not is_tuple_of(thing, 3 if has_parts else 2) or thing[0] != t:
        return False
    part = thing[1] if has_parts else rank
    if not is_rank(part) or not not_less(part, rank):
        return False
    return part != 0 or thing[-1] == ()


def is_price_row(targets, thing, has_parts):
    """Tell whether thing is a tuple of a pattern, a rank and an entry for each of its targets."""
    if not is_tuple_of(thing, 3) or not isinstance(thing[0], str) or thing[0] not in targets:
        return False
    x, rank, moves = thing
    if not is_rank(rank) or not is_tuple_of(moves, len(targets[x])):
        return False
    return all([is_price_entry(entry, t, rank, has_parts) for entry, t in zip(moves, targets[x])])


def are_price_rows(targets, thing, has_parts):
    """Tell whether thing is a list of rows, of each pattern one at most."""
    if not isinstance(thing, list):
        return False
    passed = set()
    for row in thing:
        if not is_price_row(targets, row, has_parts) or row[0] in passed:
            return False
        passed.add(row[0])
    return True


def stands_along(x, writes, erases):
    """Return the patterns along a row of writes, x first, or None if writes are no such row."""
    if not isinstance(writes, tuple) or not writes:
        return None
    stands = [x]
    for write in writes:
        if not may_write(stands[-1], write, erases):
            return None
        stands.append(end(stands[-1], write))
    return stands


class Told:
    """The ranks of patterns, the ranks for their targets, and the writes, as rows tell them."""

    def __init__(self, names, rows, has_parts):
        self._names = names
        self._ranks = {}
        self._parts = {}
        self._writes = {}
        for x, rank, moves in rows:
            self._ranks[x] = rank
            for entry in moves:
                self._parts[(x, entry[0])] = entry[1] if has_parts else rank
                self._writes[(x, entry[0])] = entry[-1]

    def claims(self):
        """Return tuples of a pattern, a target and the writes, wherever the rank told for it is not 0."""
        return [(x, t, self._writes[(x, t)]) for (x, t), part in self._parts.items() if part != 0]

    def is_old(self, x, t, z):
        """Tell whether z reads as x does and its rank for t is not less than that of x."""
        if self._names.get(z) != self._names[x] or z not in self._ranks:
            return False
        return not_less(self._parts[(z, t)], self._parts[(x, t)])

    def is_new(self, x, t, z):
        """Tell whether z reads t and its rank is not less than one less than the rank of x for t."""
        if self._names.get(z) != t or z not in self._ranks:
            return False
        return not_less(self._ranks[z], one_less(self._parts[(x, t)]))

    def holds_along(self, x, t, stands):
        """Tell whether a row of writes along these patterns leads from x to t, wherever the power fails."""
        if not self.is_new(x, t, stands[-1]) or not all([self.is_old(x, t, z) for z in stands[:-1]]):
            return False
        return all([self.is_old(x, t, z) or self.is_new(x, t, z)
                    for one, other in zip(stands, stands[1:]) for z in box(one, other)])
