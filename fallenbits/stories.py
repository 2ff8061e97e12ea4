"""Stories: runs of a driver from stand to stand, event by event."""

from fallenbits.errors import NoEvent
from fallenbits.plays import Play


def begin(store, x, left):
    """Return the stand at which a run begins, or the fault that x reads nothing."""
    if store.read(x) is None:
        return ("nothing", x)
    return ("rest", x, left)


def moves(store, driver, stand):
    """Return the list of the events that can come at a stand."""
    return Play(store, driver).events(stand)


def after(store, driver, stand, event):
    """Return the stand or fault to which an event leads."""
    play = Play(store, driver)
    if event not in play.events(stand):
        raise NoEvent(0)
    return play.led(stand, event)


def follow(store, driver, x, left, events):
    """Return all stands of a run, from the one at which it begins."""
    play = Play(store, driver)
    stands = [begin(store, x, left)]
    for at, event in enumerate(events):
        if event not in play.events(stands[-1]):
            raise NoEvent(at)
        stands.append(play.led(stands[-1], event))
    return stands
