"""Thin parts of falls, and steady writes: what a slow reader may see of one write."""

from fallenbits.boxes import box
from fallenbits.errors import NoWrite
from fallenbits.patterns import with_fallen
from fallenbits.writes import choices_of, end, write_box


def is_safe(store, x, write, t):
    """Tell whether a fall from x is safe for t."""
    s = store.read(x)
    if s is None or s == t or store.read(end(x, write)) != t:
        return False
    return all([store.read(z) in (s, t) for z in write_box(x, write)])


def thin(store, x, write, t):
    """Return the bits of a thin part of a fall, or None if the fall is not safe for t."""
    store.read(x)
    end(x, write)
    word, bits = write
    if word != "fall":
        raise NoWrite("an erase has no thin part")
    if not is_safe(store, x, write, t):
        return None
    found = bits
    for part in choices_of(bits):
        # A least choice that reads t has no choice within it that does.
        if len(part) < len(found) and store.read(with_fallen(x, part)) == t:
            found = part
    return found


def is_steady(store, x, write):
    """Tell whether each reading that a write shows and that is not the first one stays from there to the end."""
    old = store.read(x)
    after = end(x, write)
    for z in write_box(x, write):
        name = store.read(z)
        if name != old and not all([store.read(y) == name for y in box(z, after)]):
            return False
    return True
