"""Runs, told a second time by the words of points 16 to 21, for stores and drivers made by a seed."""

import itertools
import random

from fallenbits.drivers import Driver
from fallenbits.stores import Store
from tests.samples import box_of, dotted, end_of, texts_of

NAMES = ("a", "b", "c")


def events_at(store, driver, stand):
    """Return the events at a stand by the words of point 17."""
    word, x = stand[:2]
    if word == "rest":
        write = driver.write_for(x, "")
        if write is None:
            return [] if stand[2] == 0 else [("ask", t) for t in store.targets(store.read(x))]
    elif word == "busy":
        write = driver.write_for(x, stand[2])
    else:
        return []
    return [("done",)] + [("cut", z) for z in box_of(x, end_of(x, write))]


def led_to(store, driver, stand, event):
    """Return where an event leads by the words of point 17."""
    word, x = stand[:2]
    if event[0] == "ask":
        t = event[1]
        return ("strand", x, t) if driver.write_for(x, t) is None else ("busy", x, t, stand[2])
    wish = "" if word == "rest" else stand[2]
    z = end_of(x, driver.write_for(x, wish)) if event == ("done",) else event[1]
    name, left = store.read(z), stand[-1]
    if name is None:
        return ("nothing", z)
    if word == "rest":
        return ("rest", z, left) if name == store.read(x) else ("third", z, name)
    if name == wish:
        return ("rest", z, None if left is None else left - 1)
    if name != store.read(x):
        return ("third", z, name)
    if event[0] == "cut":
        return ("rest", z, left)
    return ("strand", z, wish) if driver.write_for(z, wish) is None else ("busy", z, wish, left)


def stands_from(store, driver, start, changes):
    """Return all stands and faults that come from the start."""
    found = [("rest", start, changes)]
    for stand in found:
        for event in events_at(store, driver, stand):
            led = led_to(store, driver, stand, event)
            if led not in found:
                found.append(led)
    return found


def least_flaw(store, driver, start, changes):
    """Return the least length of a list of events that shows a fault or a ring, with the kinds of that length, or None.

    What counts of a row of events is where it stands, and which stands came since the last event
    that was no ("done",): a ring is there when one of these comes again.
    """
    level, passed = [(("rest", start, changes), ())], set()
    for length in itertools.count(1):
        kinds, further = set(), []
        for stand, trail in level:
            for event in events_at(store, driver, stand):
                led = led_to(store, driver, stand, event)
                behind = (*trail, stand) if event == ("done",) else ()
                if led[0] not in ("rest", "busy"):
                    kinds.add(led[0])
                elif led in behind:
                    kinds.add("ring")
                elif (led, behind) not in passed:
                    passed.add((led, behind))
                    further.append((led, behind))
        if kinds:
            return length, kinds
        if not further:
            return None
        level = further


def distance_of(store, driver, stand):
    """Return the distance of a stand by the words of point 21."""
    many = 0
    while stand[0] == "busy" or driver.write_for(stand[1], "") is not None:
        stand = led_to(store, driver, stand, ("done",))
        many += 1
    return many


def some_store(dice, sizes, names=NAMES, gap=0.2, changes=4):
    """Return a store made by dice: each pattern reads one of the names, or nothing."""
    rules = [(x, dice.choice(names)) for x in texts_of(sizes) if dice.random() >= gap]
    pairs = list(itertools.permutations(names, 2))
    return Store(list(sizes), rules, dice.sample(pairs, min(changes, len(pairs))))


def some_driver(dice, store, rows, quiet=0.2):
    """Return a driver made by dice."""
    bits = sum(store.sizes)
    made = []
    for _ in range(rows):
        mask = dotted([dice.choice("01***") for _ in range(bits)], store.sizes)
        wish = "" if dice.random() < quiet else dice.choice(NAMES)
        if dice.random() < 0.3:
            write = ("erase", dice.randrange(len(store.sizes)))
        else:
            write = ("fall", tuple(sorted(dice.sample(range(bits), dice.randint(1, min(2, bits))))))
        made.append((mask, wish, write))
    return Driver(store, made)


def some_runs(seed, many, shapes, names=NAMES, gap=0.1, rows=8):
    """Return tuples (store, driver, start) made by dice with a seed; each start reads a state."""
    dice = random.Random(seed)
    found = []
    while len(found) < many:
        sizes = dice.choice(shapes)
        store = some_store(dice, sizes, names, gap)
        starts = [x for x in texts_of(sizes) if store.read(x) is not None]
        if starts:
            found.append((store, some_driver(dice, store, dice.randint(0, rows)), dice.choice(starts)))
    return found
