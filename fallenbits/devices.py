"""Devices: cells that keep a pattern, and a power that can fail within a write."""

from fallenbits.boxes import in_box
from fallenbits.errors import Cut, NoBit, NoPattern, NotInBox, Rise
from fallenbits.patterns import is_number, need_pattern, need_sizes, sizes_of
from fallenbits.writes import end


class Device:
    """A pattern that is changed by writes only."""

    def __init__(self, text):
        need_pattern(text)
        self._pattern = text
        self._ended = 0
        self._cuts = 0
        self._erases = [0 for _ in sizes_of(text)]
        self._armed = None
        self._stood = [text]

    @property
    def pattern(self):
        return self._pattern

    @property
    def ended(self):
        return self._ended

    @property
    def cuts(self):
        return self._cuts

    @property
    def erases(self):
        return tuple(self._erases)

    @property
    def armed(self):
        return self._armed

    def stood(self):
        """Return the pattern at the start and those after each write that ended or was cut."""
        return list(self._stood)

    def arm(self, z):
        """Prepare a power failure that leaves z in the next write; None takes it back."""
        if z is not None:
            need_sizes(z, sizes_of(self._pattern))
        self._armed = z

    def do(self, write):
        """Do a write and return the new pattern."""
        after = end(self._pattern, write)
        if self._armed is not None:
            self._fail(after)
        word, what = write
        if word == "erase":
            self._erases[what] += 1
        self._ended += 1
        self._stand(after)
        return after

    def _fail(self, after):
        """Let the armed failure happen in the write that would end at after."""
        z = self._armed
        self._armed = None
        if not in_box(z, self._pattern, after):
            raise NotInBox("the write cannot leave the armed pattern")
        self._cuts += 1
        self._stand(z)
        raise Cut(z)

    def _stand(self, text):
        self._pattern = text
        self._stood.append(text)

    def tried(self, z, ask):
        """Call ask with z armed, return what it returns, and leave no failure armed."""
        self.arm(z)
        try:
            return ask()
        finally:
            self._armed = None

    def block(self, b):
        """Return a view of one block."""
        return Block(self, b)

    def set_text(self, b, text):
        """Set the text of the block b, by one write or by none."""
        self.block(b).change(text)


class Block:
    """A view of one block of a device, always up to date."""

    def __init__(self, device, b):
        sizes = sizes_of(device.pattern)
        if not is_number(b, len(sizes)):
            raise NoBit("there is no such block")
        self._device = device
        self._number = b
        self._first = sum(sizes[:b])

    @property
    def text(self):
        return self._device.pattern.split(".")[self._number]

    @text.setter
    def text(self, value):
        self.change(value)

    def __len__(self):
        return len(self.text)

    def __getitem__(self, at):
        if not is_number(at, len(self.text)):
            raise NoBit("there is no such bit in the block")
        return int(self.text[at])

    def __setitem__(self, at, worth):
        self.put(at, worth)

    def __iter__(self):
        raise TypeError("a block is not iterated over")

    def put(self, i, bit):
        """Let the bit i fall for a bit 0; for a bit 1 look that it stands."""
        stands = self[i] == 1
        if bit == 1 and not stands:
            raise Rise("a fallen bit rises by an erase only")
        if bit == 0 and stands:
            self._device.do(("fall", (self._first + i,)))

    def change(self, text):
        """Let all bits in one write fall that stand and are "0" in a text of the whole block."""
        now = self.text
        if not isinstance(text, str) or len(text) != len(now):
            raise NoPattern(0)
        if not all([sign in ("0", "1") for sign in text]):
            raise NoPattern(0)
        if not all([new <= old for new, old in zip(text, now)]):
            raise Rise("a fallen bit rises by an erase only")
        falling = [i for i, old in enumerate(now) if old != text[i]]
        if falling:
            self._device.do(("fall", tuple([self._first + i for i in falling])))

    def erase(self):
        """Erase the block, unless all its bits stand."""
        if "0" in self.text:
            self._device.do(("erase", self._number))
