"""Sights: what a reader can see of a row of patterns if it takes each bit once, in an order."""

from fallenbits.errors import NoWrite
from fallenbits.patterns import bits_of, places_of
from fallenbits.writes import end


def patterns_along(x, writes):
    """Return the patterns along a list of writes, x first; raise NoWrite for the first write that is none."""
    if not isinstance(writes, list):
        raise NoWrite("this is no list of writes")
    stands = [x]
    for write in writes:
        stands.append(end(stands[-1], write))
    return stands


def columns_of(stands):
    """Return for each bit the text of its signs in the patterns of a row, one after the other."""
    rows = [bits_of(x) for x in stands]
    return ["".join(signs) for signs in zip(*rows)]


def first_showing(column, sign, position):
    """Return the first position from a given one on at which a bit may have a sign, or None.

    The sign at k in the column may be seen from within the write ahead of it, at 2 k - 1, to within the write
    behind it, at 2 k + 1.
    """
    k = column.find(sign, position // 2)
    if k < 0:
        return None
    earliest = 2 * k - 1
    return earliest if earliest > position else position


def positions_of(columns, order, z):
    """Return the least positions, along the order, at which the bits may be as in z, or None."""
    bits = bits_of(z)
    position = 0
    found = []
    for bit in order:
        # The least position is the best one for all bits behind, too.
        position = first_showing(columns[bit], bits[bit], position)
        if position is None:
            return None
        found.append(position)
    return found


def signs_seen(columns, order):
    """Return all texts of signs that can be seen along the order."""
    reached = {"": 0}
    for bit in order:
        further = {}
        for taken, position in reached.items():
            for sign in ("0", "1"):
                later = first_showing(columns[bit], sign, position)
                if later is not None:
                    further[taken + sign] = later
        reached = further
    return list(reached)


def placed(x, order, taken):
    """Return the pattern of the sizes of x that has the taken signs at the bits of the order."""
    places = places_of(x)
    signs = list(x)
    for bit, sign in zip(order, taken):
        signs[places[bit]] = sign
    return "".join(signs)


def sights(stands, order):
    """Return all patterns that can be seen of a row of patterns, ascending."""
    x = stands[0]
    return sorted([str(placed(x, order, taken)) for taken in signs_seen(columns_of(stands), order)])
