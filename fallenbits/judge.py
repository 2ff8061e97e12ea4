"""The judge: whether no failure and no asker can lead a driver to a fault, or a shortest list of events that do."""

from fallenbits.plays import DONE, Play, is_stand
from fallenbits.stories import begin


class Journey:
    """All stands that come from the first one, with the way on which each came first."""

    def __init__(self, play, first):
        self._play = play
        # Of each stand: the stand ahead of it and the event between, the first one has none.
        self._came = {first: None}
        self._behind_done = {}
        self._fault = None
        fresh = [first]
        while fresh:
            fresh = self._next_stands(fresh)

    def _next_stands(self, stands):
        """Return the stands that come first behind these, and note how."""
        fresh = []
        for stand in stands:
            for event in self._play.events(stand):
                led = self._play.led(stand, event)
                if not is_stand(led):
                    self._note_fault(stand, event, led)
                    continue
                if event == DONE:
                    self._behind_done[stand] = led
                if led not in self._came:
                    self._came[led] = (stand, event)
                    fresh.append(led)
        return fresh

    def _note_fault(self, stand, event, fault):
        """Keep the first fault; as stands are taken in the order of their distance, no other one is nearer."""
        if self._fault is None:
            self._fault = (fault[0], self.way_to(stand) + [event])

    def _ring_length(self, stand):
        """Return how many events done lead from a stand back to it, or None."""
        passed = set()
        here = stand
        while here in self._behind_done and here not in passed:
            passed.add(here)
            here = self._behind_done[here]
        return len(passed) if passed and here == stand else None

    def _nearest_ring(self):
        """Return ("ring", events) with the shortest list of events that shows one, or None."""
        found = None
        for stand in self._came:
            many = self._ring_length(stand)
            if many is not None:
                events = self.way_to(stand) + [DONE] * many
                if found is None or len(events) < len(found[1]):
                    found = ("ring", events)
        return found

    def nearest_flaw(self):
        """Return the word of a fault, or "ring", with the shortest list of events that shows it, or None."""
        ring = self._nearest_ring()
        if ring is None or self._fault is None:
            return ring if self._fault is None else self._fault
        return ring if len(ring[1]) < len(self._fault[1]) else self._fault

    def way_to(self, stand):
        """Return the shortest list of events from the first stand to a stand."""
        events = []
        while self._came[stand] is not None:
            stand, event = self._came[stand]
            events.append(event)
        return events[::-1]

    def distance(self, stand):
        """Return how many events done lead from a stand to rest, where no ring comes."""
        many = 0
        while stand in self._behind_done:
            stand = self._behind_done[stand]
            many = many + 1
        return many

    def has_come(self, stand):
        """Tell whether a stand comes from the first one."""
        return stand in self._came

    def all_come(self):
        """Return all stands that come from the first one, the nearest ones first."""
        return list(self._came)


def all_stands(store, changes):
    """Return all stands that a run with so many changes could have, ascending."""
    lefts = [None] if changes is None else list(range(changes + 1))
    busy = [("busy", x, t, left) for x in store.patterns() for t in store.targets(store.read(x)) for left in lefts]
    return busy + [("rest", x, left) for x in store.patterns() for left in lefts]


def judge(store, driver, start, changes=None):
    """Return whether a driver is closed, with all stands that come, or what shows that it is not."""
    first = begin(store, start, changes)
    if not is_stand(first):
        return ("nothing", [])
    journey = Journey(Play(store, driver), first)
    flaw = journey.nearest_flaw()
    if flaw is not None:
        return flaw
    return ("closed", [(stand, journey.distance(stand)) for stand in all_stands(store, changes)
                       if journey.has_come(stand)])
