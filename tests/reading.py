"""What a slow reader can see, told a second time by the words of points 39, 40 and 42: position by position."""

import itertools

from tests.runs import events_at, led_to, stands_from
from tests.samples import bits_of, dotted, end_of, sizes_of


def along(x, writes):
    """Return the patterns ahead of the writes of a row and behind the last one."""
    stands = [x]
    for write in writes:
        stands.append(end_of(stands[-1], write))
    return stands


def signs_at(stands, position, bit):
    """Return the signs that a bit may have at a position, by the words of point 39."""
    k = position // 2
    signs = {bits_of(stands[k])[bit]}
    if position % 2:
        signs.add(bits_of(stands[k + 1])[bit])
    return signs


def rows_of_positions(stands):
    """Return all rows of positions that do not fall, one for each bit, the least ones first."""
    many = len(bits_of(stands[0]))
    return itertools.combinations_with_replacement(range(2 * len(stands) - 1), many)


def seen_by_steps(x, writes, order):
    """Return the set of the patterns that can be seen, by the words of point 40."""
    stands, found = along(x, writes), set()
    for row in rows_of_positions(stands):
        for signs in itertools.product(*[signs_at(stands, at, bit) for at, bit in zip(row, order)]):
            taken = dict(zip(order, signs))
            found.add(dotted([taken[bit] for bit in range(len(order))], sizes_of(x)))
    return found


def moments_by_steps(x, writes, order, z):
    """Return the first row of positions at which the bits may be as in z, or None."""
    stands = along(x, writes)
    for row in rows_of_positions(stands):
        if all(bits_of(z)[bit] in signs_at(stands, at, bit) for at, bit in zip(row, order)):
            return list(row)
    return None


def looks_of(store, driver, stand):
    """Return tuples (events, writes, states) of all looks that begin at a stand, by the words of point 42."""
    found = []
    open_ends = [([], [], [store.read(stand[1])], stand)]
    while open_ends:
        events, writes, names, here = open_ends.pop()
        found.append((events, writes, names))
        for event in events_at(store, driver, here):
            led = led_to(store, driver, here, event)
            if event == ("done",):
                write = driver.write_for(here[1], "" if here[0] == "rest" else here[2])
                open_ends.append((events + [event], writes + [write], names, led))
            elif event[0] == "ask" and len(names) == 1:
                open_ends.append((events + [event], writes, names + [event[1]], led))
    return found


def wrong_looks(store, driver, order, start, changes):
    """Return tuples (stand, events, z) of all wrong looks of a closed driver."""
    found = []
    for stand in stands_from(store, driver, start, changes):
        if stand[0] == "rest":
            for events, writes, names in looks_of(store, driver, stand):
                for z in seen_by_steps(stand[1], writes, order):
                    if store.read(z) not in names:
                        found.append((stand, events, z))
    return found
