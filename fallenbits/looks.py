"""Looks: what a slow reader can see of a row of writes, and of a driver at work."""

from fallenbits.closed import stands_along
from fallenbits.errors import TooMany
from fallenbits.judge import Journey
from fallenbits.patterns import is_number, need_pattern, need_sizes, sizes_of
from fallenbits.plays import DONE, Play, is_stand
from fallenbits.sights import columns_of, patterns_along, positions_of, sights
from fallenbits.stores import need_each_bit
from fallenbits.writes import is_tuple_of

MOST_CHANGED = 10


def seen(x, writes, order):
    """Return all patterns that a reader can see who takes the bits in this order, ascending."""
    need_pattern(x)
    stands = patterns_along(x, writes)
    columns = columns_of(stands)
    need_each_bit(order, len(columns))
    if len([column for column in columns if "0" in column and "1" in column]) > MOST_CHANGED:
        raise TooMany("the writes change more than ten bits")
    return sights(stands, order)


def moments(x, writes, order, z):
    """Return for each bit of the order the least position at which it may be as in z, or None."""
    need_pattern(x)
    need_sizes(z, sizes_of(x))
    columns = columns_of(patterns_along(x, writes))
    need_each_bit(order, len(columns))
    return positions_of(columns, order, z)


def stands_behind(play, stand):
    """Return the stands along the events done from a stand on, as far as these go; the stand is the first."""
    stands = [stand]
    while play.due_at(stands[-1]) is not None:
        led = play.led(stands[-1], DONE)
        if not is_stand(led) or led in stands:
            # A closed driver leads to no fault and has no ring; another one ends here, too.
            break
        stands.append(led)
    return stands


def looks_from(play, stand):
    """Return tuples of the events, the patterns and the states of the longest looks that begin at a rest stand."""
    quiet = stands_behind(play, stand)
    events = [DONE] * (len(quiet) - 1)
    passed = [here[1] for here in quiet]
    old = play.name_of(stand[1])
    found = [(events, passed, (old,))]
    for ask in play.events(quiet[-1]):
        led = play.led(quiet[-1], ask)
        if ask[0] == "ask" and is_stand(led):
            further = [here[1] for here in stands_behind(play, led)[1:]]
            found.append((events + [ask] + [DONE] * len(further), passed + further, (old, ask[1])))
    return found


def wrong_sight(play, order, look):
    """Return a pattern that a look shows in an order and that reads neither of its states, or None."""
    _, passed, names = look
    for z in sights(passed, order):
        if play.name_of(z) not in names:
            return z
    return None


def look_fault(store, driver, order, start, changes):
    """Return the events to a wrong look and along it, how many lead to it, and a pattern seen, or None."""
    name = store.read(start)
    need_each_bit(order, sum(store.sizes))
    if name is None:
        return None
    play = Play(store, driver)
    journey = Journey(play, ("rest", start, changes))
    passed = set()
    for stand in journey.all_come():
        # What a look shows hangs on the pattern, and on whether anything can be asked at all.
        if stand[0] != "rest" or (stand[1], stand[2] == 0) in passed:
            continue
        passed.add((stand[1], stand[2] == 0))
        for look in looks_from(play, stand):
            z = wrong_sight(play, order, look)
            if z is not None:
                ahead = journey.way_to(stand)
                return (ahead + look[0], len(ahead), z)
    return None


def is_wrong_look(play, order, stands, events, z):
    """Tell whether events from the first of some stands are a look that shows z, which reads neither of its states."""
    asks = [event[1] for event in events if event[0] == "ask"]
    if len(asks) > 1 or "cut" in [event[0] for event in events]:
        return False
    if play.name_of(z) in (play.name_of(stands[0][1]), *asks):
        return False
    passed = [stand[1] for stand in stands]
    return positions_of(columns_of(passed), order, z) is not None


def shows_look(store, driver, order, start, changes, thing):
    """Tell whether a thing, whatever it is, is a tuple that tells of a wrong look."""
    name = store.read(start)
    need_each_bit(order, sum(store.sizes))
    if name is None or not is_tuple_of(thing, 3):
        return False
    events, many, z = thing
    if not isinstance(events, list) or not is_number(many, len(events) + 1) or z not in store:
        return False
    play = Play(store, driver)
    stands = stands_along(play, ("rest", start, changes), events)
    if stands is None or not is_stand(stands[-1]) or stands[many][0] != "rest":
        return False
    return is_wrong_look(play, order, stands[many:], events[many:], z)
