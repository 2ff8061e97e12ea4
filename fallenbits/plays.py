"""Plays: which events can come at a stand of a run, and where each of them leads."""

from fallenbits.writes import end, write_box

DONE = ("done",)


def is_stand(thing):
    """Tell whether a stand or fault is a stand, at which a run can go on."""
    return thing[0] in ("rest", "busy")


class Play:
    """A store with a driver; what they say of a pattern is looked up once."""

    def __init__(self, store, driver):
        self._store = store
        self._driver = driver
        self._found_names = {}
        self._found_writes = {}

    def name_of(self, x):
        """Return the name that x reads, or None."""
        if x not in self._found_names:
            self._found_names[x] = self._store.read(x)
        return self._found_names[x]

    def targets_of(self, x):
        """Return the targets of the state that x reads, ascending."""
        return self._store.targets(self.name_of(x))

    def due(self, x, wish):
        """Return the end and the box of the driver's write for x and a wish, or None."""
        if (x, wish) not in self._found_writes:
            write = self._driver.write_for(x, wish)
            ends = None if write is None else (end(x, write), write_box(x, write))
            self._found_writes[(x, wish)] = ends
        return self._found_writes[(x, wish)]

    def due_at(self, stand):
        """Return the end and the box of the write that comes next at a stand, or None."""
        if stand[0] == "rest":
            return self.due(stand[1], "")
        if stand[0] == "busy":
            return self.due(stand[1], stand[2])
        return None

    def events(self, stand):
        """Return the events that can come at a stand; none can at a fault."""
        coming = self.due_at(stand)
        if coming is not None:
            return [DONE] + [("cut", z) for z in coming[1]]
        if stand[0] != "rest" or stand[2] == 0:
            return []
        return [("ask", t) for t in self.targets_of(stand[1])]

    def led(self, stand, event):
        """Return the stand or fault to which an event that can come at a stand leads."""
        if event[0] == "ask":
            return self._under_way(stand[1], event[1], stand[2])
        z = self.due_at(stand)[0] if event == DONE else event[1]
        if self.name_of(z) is None:
            return ("nothing", z)
        if stand[0] == "rest":
            return self._behind_quiet(stand, z)
        return self._behind_change(stand, z, event == DONE)

    def _under_way(self, x, t, left):
        """Return the stand at which a change to t is under way at x, or the fault that no row applies."""
        return ("strand", x, t) if self.due(x, t) is None else ("busy", x, t, left)

    def _behind_quiet(self, stand, z):
        """Return where a quiet write leads that leaves z."""
        _, x, left = stand
        name = self.name_of(z)
        return ("rest", z, left) if name == self.name_of(x) else ("third", z, name)

    def _behind_change(self, stand, z, is_done):
        """Return where a write of a change leads that leaves z, whether it is done or cut."""
        _, x, t, left = stand
        name = self.name_of(z)
        if name == t:
            return ("rest", z, None if left is None else left - 1)
        if name != self.name_of(x):
            return ("third", z, name)
        return self._under_way(z, t, left) if is_done else ("rest", z, left)
