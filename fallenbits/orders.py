"""Orders: in which order a slow reader takes rows of writes cleanly."""

from fallenbits.errors import NoWrite
from fallenbits.patterns import bits_of, need_pattern, need_sizes, sizes_of, unlike_bits
from fallenbits.sights import patterns_along


def changed_bits(x, writes):
    """Return the list of the bits that each write of a straight row changes; raise NoWrite for another row."""
    stands = patterns_along(x, writes)
    found = [unlike_bits(one, other) for one, other in zip(stands, stands[1:])]
    changed = [bit for bits in found for bit in bits]
    if len(set(changed)) != len(changed):
        raise NoWrite("a write changes a bit that an earlier one has changed")
    return found


def bits_ahead(rows):
    """Return for each bit b a dict of the bits c that must be ahead of it: those of the forced pairs (c, b)."""
    first = rows[0][0]
    need_pattern(first)
    found = [{} for _ in bits_of(first)]
    for x, writes in rows:
        need_sizes(x, sizes_of(first))
        later = {}
        for bits in changed_bits(x, writes)[::-1]:
            for b in bits:
                found[b].update(later)
            later.update({c: True for c in bits})
    return found


def forced(rows):
    """Return the forced pairs of some rows, ascending, each once."""
    ahead = bits_ahead(rows)
    many = range(len(ahead))
    return [(c, b) for c in many for b in many if c in ahead[b]]


def ring_among(ahead, rest):
    """Return a ring of bits of the rest, each of which has another one of the rest that must be ahead of it."""
    trail = [rest[0]]
    while trail.count(trail[-1]) == 1:
        b = trail[-1]
        trail.append([c for c in rest if c in ahead[b]][0])
    first = trail.index(trail[-1])
    # The trail goes from b to c, a forced pair is (c, b).
    return tuple(trail[:first:-1])


def order_for(rows):
    """Return ("order", order) with an order that takes all rows cleanly, or ("ring", bits) with a ring."""
    ahead = bits_ahead(rows)
    order = []
    rest = list(range(len(ahead)))
    while rest:
        free = [b for b in rest if not any([c in ahead[b] for c in rest])]
        if not free:
            return ("ring", ring_among(ahead, rest))
        order.extend(free)
        rest = [b for b in rest if b not in free]
    return ("order", tuple(order))
