"""Hands: they do changes on a device by the rows of a driver."""

from fallenbits.errors import NoState, Stranded


class Hand:
    """A store and a driver, whose rows are followed on devices."""

    def __init__(self, store, driver):
        self._store = store
        self._driver = driver

    def wake(self, device):
        """Write by quiet rows until none applies; return how many writes have ended."""
        x = device.pattern
        # The store raises Unlike if the device has other sizes.
        old = self._store.read(x)
        if old is None:
            raise Stranded(x)
        passed = [x]
        write = self._driver.write_for(x, "")
        while write is not None:
            x = self._go_on(device, write, passed, (old,))
            write = self._driver.write_for(x, "")
        return len(passed) - 1

    def __call__(self, device, t):
        """Do the quiet writes and then a change to t; return how many writes have ended."""
        ended = self.wake(device)
        x = device.pattern
        old = self._store.read(x)
        if t not in self._store.targets(old):
            raise NoState("there is no such change from the present state")
        passed = [x]
        while self._store.read(x) != t:
            write = self._driver.write_for(x, t)
            if write is None:
                raise Stranded(x)
            x = self._go_on(device, write, passed, (old, t))
        return ended + len(passed) - 1

    def _go_on(self, device, write, passed, names):
        """Do a write that must end at one of some names and at a pattern not yet passed; return the end."""
        x = device.do(write)
        if x in passed or self._store.read(x) not in names:
            raise Stranded(x)
        passed.append(x)
        return x
