"""Rolling blocks, told a second time by the words of points 46 and 47."""

import itertools

from tests.samples import end_of

HEADERS = ("00", "01", "10", "11")
MARKS = ("10", "01")


def contents(many):
    return ["".join(signs) for signs in itertools.product("01", repeat=many)]


def rolling_patterns(size):
    """Return all rolling patterns of two blocks of a size, ascending."""
    parts = contents(size)
    return [one + "." + other for one in parts for other in parts]


def live_by_words(x):
    """Return the live block by the words of point 46."""
    heads = [part[:2] for part in x.split(".")]
    used = [block for block in (0, 1) if heads[block] in MARKS]
    if len(used) < 2:
        return used[0] if used else None
    return 0 if heads[0] == heads[1] else 1


def content_by_words(x):
    live = live_by_words(x)
    return None if live is None else x.split(".")[live][2:]


def can_begin(x):
    """Tell whether a move can begin at a pattern."""
    return live_by_words(x) is not None and "00" not in [part[:2] for part in x.split(".")]


def move_by_words(x, fresh):
    """Return the writes of a move by the words of point 47; the header is found by trying both bits."""
    size = len(x) // 2
    other = 1 - live_by_words(x)
    here, writes = x, []
    header, content = x.split(".")[other][:2], x.split(".")[other][2:]
    if header != "11" or any(sign == "1" and bit == "0" for sign, bit in zip(fresh, content)):
        writes.append(("erase", other))
        here = end_of(here, writes[-1])
    part = here.split(".")[other]
    bits = tuple(other * size + 2 + at for at, sign in enumerate(fresh) if sign == "0" and part[2 + at] == "1")
    if bits:
        writes.append(("fall", bits))
        here = end_of(here, writes[-1])
    last = [("fall", (other * size + bit,)) for bit in (0, 1)]
    return writes + [write for write in last if live_by_words(end_of(here, write)) == other]
