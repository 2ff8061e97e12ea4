"""Rolling blocks: two blocks that hold a content in turn, told by a header of two bits each."""

from fallenbits.drivers import Driver
from fallenbits.errors import Foreign, NoStore, Unlike
from fallenbits.patterns import need_content, need_pattern, sizes_of
from fallenbits.stores import Store
from fallenbits.writes import standing_bits

HEADER = 2
LEAST_SIZE = 3
MARKS = ("10", "01")
FREE = "11"
SPOILT = "00"
CONTENTS = ("1", "0")


def need_rolling(x):
    """Raise NoPattern if x is no pattern, then Unlike if it is no rolling one."""
    need_pattern(x)
    sizes = sizes_of(x)
    if len(sizes) != 2 or sizes[0] != sizes[1] or sizes[0] < LEAST_SIZE:
        raise Unlike("this pattern does not have two blocks of one size, of three bits or more")


def headers_of(x):
    """Return the headers of the two blocks."""
    return [part[:HEADER] for part in x.split(".")]


def contents_of(x):
    """Return the contents of the two blocks."""
    return [part[HEADER:] for part in x.split(".")]


def live_block(x):
    """Return the number of the live block of a rolling pattern, or None."""
    one, other = headers_of(x)
    if one in MARKS and other in MARKS:
        return 0 if one == other else 1
    if one in MARKS:
        return 0
    return 1 if other in MARKS else None


def held_content(x):
    """Return the content that a rolling pattern holds, or None."""
    at = live_block(x)
    return None if at is None else contents_of(x)[at]


def has_spoilt_header(x):
    """Tell whether a rolling pattern has a header that no move leaves."""
    return SPOILT in headers_of(x)


def live(x):
    """Return the number of the live block, or None."""
    need_rolling(x)
    return live_block(x)


def content(x):
    """Return the content that x holds, or None."""
    need_rolling(x)
    return held_content(x)


def can_move(x):
    """Tell whether a rolling pattern is one from which a move can begin."""
    return live_block(x) is not None and not has_spoilt_header(x)


def mark_behind(headers, at):
    """Return the mark that makes the block that is not live the live one, at being the live one."""
    if at == 1:
        return headers[1]
    return MARKS[1] if headers[0] == MARKS[0] else MARKS[0]


def move(x, fresh):
    """Return the list of the writes of a move to a fresh content."""
    need_rolling(x)
    size = sizes_of(x)[0]
    need_content(fresh, size - HEADER)
    if not can_move(x):
        raise Foreign(x)
    at = live_block(x)
    headers = headers_of(x)
    first = 0 if at == 1 else size
    kept = contents_of(x)[1 - at]
    writes = []
    if headers[1 - at] != FREE or not all([bit == "1" or sign == "0" for bit, sign in zip(kept, fresh)]):
        writes.append(("erase", 1 - at))
        kept = "1" * len(fresh)
    falling = [first + HEADER + bit for bit in standing_bits(kept) if fresh[bit] == "0"]
    if falling:
        writes.append(("fall", tuple(falling)))
    writes.append(("fall", (first + mark_behind(headers, at).index("0"),)))
    return writes


def headers_first(x):
    """Return the order that takes the bits of both headers first."""
    need_rolling(x)
    size = sizes_of(x)[0]
    heads = [block * size + bit for block in range(2) for bit in range(HEADER)]
    return tuple(heads + [bit for bit in range(2 * size) if bit not in heads])


def fresh_for(store, t):
    """Return the content of one bit that reads t, "1" if both do, or None."""
    for text in CONTENTS:
        if store.read(text) == t:
            return text
    return None


def rolling(store):
    """Return the Store and the Driver that keep the states of a store of one bit in two blocks of three bits."""
    if store.sizes != (1,):
        raise NoStore("sizes", None)
    sizes = [HEADER + 1, HEADER + 1]
    # A store of these sizes without rules lists the patterns.
    bare = Store(sizes, [], [])
    held = [(x, held_content(x)) for x in bare.patterns()]
    names = [(x, store.read(text)) for x, text in held if text is not None]
    rules = [(x, name) for x, name in names if name is not None]
    wanted = {t: fresh_for(store, t) for _, t in store.changes()}
    rows = [(x, t, move(x, fresh)[0]) for x, _ in held if can_move(x)
            for t, fresh in wanted.items() if fresh is not None]
    both = Store(sizes, rules, store.changes())
    return (both, Driver(both, rows))
