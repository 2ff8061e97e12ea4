"""What several tests share: odd values, small patterns, and plain ways to say what is right."""

import itertools

# "Of anything": whole numbers, truths, None, texts, and lists, tuples and dicts of these.
ODD_THINGS = [
    None, True, False, 0, 1, -1, 2, 7, 10 ** 59, -(10 ** 59),
    "", "0", "1", "x", ".", "1.", "*", "a", "fall", "erase", "10.1 ",
    [], [0], [1, 2], ["1"], [None], [[]],
    (), (0,), (1, 2), ("1",), (None,), ((),), ("fall",), ("erase",),
    {}, {0: 1}, {"1": "0"}, {"fall": (0,)}, [{}], ({},), ([], ()),
]
NO_NUMBERS = [thing for thing in ODD_THINGS if isinstance(thing, bool) or not isinstance(thing, int)]
NO_TEXTS = [thing for thing in ODD_THINGS if not isinstance(thing, str)]
NO_LISTS = [thing for thing in ODD_THINGS if not isinstance(thing, list)]
NO_TUPLES = [thing for thing in ODD_THINGS if not isinstance(thing, tuple)]


def shapes(most):
    """Return all sizes of one to three blocks with at most so many bits together."""
    found = []
    for blocks in (1, 2, 3):
        for sizes in itertools.product(range(1, most + 1), repeat=blocks):
            if sum(sizes) <= most:
                found.append(sizes)
    return found


def dotted(bits, sizes):
    """Return the text with these bits in blocks of these sizes."""
    bits = "".join(bits)
    parts, first = [], 0
    for size in sizes:
        parts.append(bits[first:first + size])
        first += size
    return ".".join(parts)


def texts_of(sizes):
    """Return all patterns of these sizes, ascending."""
    return [dotted(bits, sizes) for bits in itertools.product("01", repeat=sum(sizes))]


def bits_of(text):
    return text.replace(".", "")


def sizes_of(text):
    return tuple(len(part) for part in text.split("."))


def box_of(one, other):
    """Return the box of two patterns by what the document says of it, ascending."""
    return [z for z in texts_of(sizes_of(one))
            if all(c == a for c, a, b in zip(z, one, other) if a == b)]


def falls_of(x):
    """Return all falls from x, ascending as tuples of bits."""
    standing = [at for at, bit in enumerate(bits_of(x)) if bit == "1"]
    return [("fall", bits) for bits in sorted(
        bits for many in range(1, len(standing) + 1) for bits in itertools.combinations(standing, many))]


def erases_of(x):
    """Return all erases from x, by block."""
    return [("erase", block) for block, part in enumerate(x.split(".")) if "0" in part]


def end_of(x, write):
    """Return the end of a write by what the document says of it."""
    word, what = write
    sizes = sizes_of(x)
    signs = list(bits_of(x))
    if word == "fall":
        changed = what
    else:
        first = sum(sizes[:what])
        changed = range(first, first + sizes[what])
    for bit in changed:
        signs[bit] = "0" if word == "fall" else "1"
    return dotted(signs, sizes)
