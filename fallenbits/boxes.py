"""Boxes: all patterns that agree with two patterns wherever these agree."""

from fallenbits.errors import TooMany
from fallenbits.patterns import need_bits, need_pattern, need_sizes, places_of, sizes_of, unlike_bits

MOST_UNLIKE_BITS = 10


def need_alike(texts):
    """Raise NoPattern for the first text that is no pattern, then Unlike if their sizes differ."""
    for text in texts:
        need_pattern(text)
    for text in texts:
        need_sizes(text, sizes_of(texts[0]))


def box(one, other):
    """Return all patterns of the box of two patterns, ascending."""
    need_alike([one, other])
    if len(unlike_bits(one, other)) > MOST_UNLIKE_BITS:
        raise TooMany("the patterns differ at more than ten bits")
    found = [""]
    for a, b in zip(one, other):
        signs = (a,) if a == b else ("0", "1")
        found = [text + sign for text in found for sign in signs]
    return found


def walk_box(one, other):
    """Yield the patterns of the box of two patterns, ascending."""
    for z in box(one, other):
        yield z


def in_box(z, one, other):
    """Tell whether z lies in the box of two patterns."""
    need_alike([z, one, other])
    return all([a != b or sign == a for sign, a, b in zip(z, one, other)])


def box_size(one, other):
    """Return how many patterns the box of two patterns has."""
    need_alike([one, other])
    return 1 << len(unlike_bits(one, other))


def torn(one, other, early):
    """Return the pattern that has the early bits of one and all others of other."""
    need_alike([one, other])
    places = places_of(one)
    need_bits(early, len(places))
    signs = list(other)
    for bit in early:
        signs[places[bit]] = one[places[bit]]
    return "".join(signs)
