"""Lookers: whether a thing, any value, shows what the judge may tell."""

from fallenbits.patterns import is_whole
from fallenbits.plays import DONE, Play
from fallenbits.writes import is_pair

FAULTS = ("nothing", "third", "strand")


def is_left(changes, thing):
    """Tell whether thing is a number of changes that can be left of some changes."""
    if changes is None:
        return thing is None
    return is_whole(thing) and 0 <= thing <= changes


def can_stand(store, play, changes, thing):
    """Tell whether thing is a rest stand, or a busy stand at which the driver has a write."""
    if not isinstance(thing, tuple) or len(thing) not in (3, 4) or thing[1] not in store:
        return False
    x = thing[1]
    if play.name_of(x) is None or not is_left(changes, thing[-1]):
        return False
    if len(thing) == 3:
        return thing[0] == "rest"
    if thing[0] != "busy" or thing[-1] == 0 or thing[2] not in play.targets_of(x):
        return False
    return play.due(x, thing[2]) is not None


def told_distances(store, play, changes, thing):
    """Return a dict from the stands to the distances that a thing tells, or None if it has another form."""
    if not isinstance(thing, list):
        return None
    told = {}
    for row in thing:
        if not is_pair(row) or not can_stand(store, play, changes, row[0]):
            return None
        stand, distance = row
        if stand in told or not is_whole(distance) or distance < 0:
            return None
        told[stand] = distance
    return told


def stays_within(play, stand, told):
    """Tell whether all events at a stand lead to stands that are told, and "done" to one with a lesser distance."""
    for event in play.events(stand):
        led = play.led(stand, event)
        if led not in told:
            return False
        if event == DONE and told[led] >= told[stand]:
            return False
    return True


def is_closed(store, driver, start, changes, thing):
    """Tell whether a thing, any value, shows that a driver is closed."""
    if store.read(start) is None:
        return False
    play = Play(store, driver)
    told = told_distances(store, play, changes, thing)
    if told is None or ("rest", start, changes) not in told:
        return False
    return all([stays_within(play, stand, told) for stand in told])


def stands_along(play, first, events):
    """Return the stands and faults along some events, or None if one of them cannot come."""
    stands = [first]
    for event in events:
        if event not in play.events(stands[-1]):
            return None
        stands.append(play.led(stands[-1], event))
    return stands


def ends_in_ring(stands, events):
    """Tell whether the last events are "done" and the stand ahead of them is the last one."""
    many = 1
    while many <= len(events) and events[-many] == DONE:
        if stands[-many - 1] == stands[-1]:
            return True
        many = many + 1
    return False


def shows(store, driver, start, changes, kind, events):
    """Tell whether events, any value, show a kind of fault or a ring, any value, from the start."""
    if store.read(start) is None:
        return kind == "nothing" and events == []
    if not isinstance(events, list):
        return False
    stands = stands_along(Play(store, driver), ("rest", start, changes), events)
    if stands is None:
        return False
    # Nothing can come behind a fault, so only the last stand can be one, and no stand ahead of it equals it then.
    if kind == "ring":
        return ends_in_ring(stands, events)
    return kind in FAULTS and stands[-1][0] == kind
