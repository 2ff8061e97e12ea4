"""Fields: ways to keep one state in some bits that only fall, by the fall of one bit for each change."""

from fallenbits.boxes import box
from fallenbits.errors import NoBit, NoField, NoRoom, NoState
from fallenbits.patterns import bits_of, is_whole, need_content
from fallenbits.ranks import EVER
from fallenbits.stores import MOST_BITS, MOST_CHANGES, Store, is_name
from fallenbits.writes import standing_bits

MOST_NAMES = 8


def are_names(thing, least):
    """Tell whether thing is a list or tuple of unlike names, at least so many and not too many."""
    if not isinstance(thing, (list, tuple)) or not least <= len(thing) <= MOST_NAMES:
        return False
    if not all([is_name(name) for name in thing]):
        return False
    return len(set(thing)) == len(thing)


def is_many(thing, bits):
    """Tell whether thing is a whole number from 1 on, of which so many bits each are not too many for a field."""
    return is_whole(thing) and 1 <= thing and thing * bits <= Field.MOST


def fallen_in(content):
    """Return the numbers of the bits of a content that have fallen, ascending."""
    return [bit for bit, sign in enumerate(content) if sign == "0"]


class Field:
    """A way to keep a state; the base of all kinds, not made itself."""

    MOST = 40

    def __init__(self, text, states, bits):
        # The text tells the kind and all its parts, so it is what two equal fields have in common.
        self._text = text
        self._states = states
        self._bits = bits

    @property
    def bits(self):
        return self._bits

    @property
    def states(self):
        return self._states

    @property
    def start(self):
        return self._states[0]

    def __str__(self):
        return str(self._text)

    def __eq__(self, other):
        return isinstance(other, Field) and self._text == other._text

    def changes(self):
        """Return the list of the changes, ascending."""
        sources = sorted([str(name) for name in self._states])
        return [(source, target) for source in sources for target in self.targets(source)]

    def targets(self, name):
        """Return the list of the targets of a state, ascending."""
        return sorted([str(target) for target in self._targets_of(name)])

    def state(self, content):
        """Return the name that a content reads, or None."""
        need_content(content, self._bits)
        return self._name_of(content)

    def room(self, content):
        """Return how many changes are sure, or None if the content reads nothing."""
        return None if self.state(content) is None else self._room_of(content)

    def left(self, content):
        """Return how many changes can be asked kindly, or None if the content reads nothing."""
        return None if self.state(content) is None else self._left_of(content)

    def way(self, content, target):
        """Return the list of the bits that fall for a change."""
        name = self.state(content)
        if name is None or target not in self._targets_of(name):
            raise NoState("there is no such change from what the content reads")
        bits = self._bits_for(content, target)
        if not bits:
            raise NoRoom("no bit is left for the change")
        return bits[:1]

    def image(self, name):
        """Return a content with few fallen bits that reads a name."""
        if name not in self._states:
            raise NoState("there is no such state")
        fallen = self._fallen_for(self._states.index(name))
        return "".join(["0" if bit in fallen else "1" for bit in range(self._bits)])

    def as_store(self):
        """Return the store of one block with these readings and changes."""
        if self._bits > MOST_BITS:
            raise NoField("bits")
        changes = self.changes()
        if len(changes) > MOST_CHANGES:
            raise NoField("changes")
        names = [(content, self._name_of(content)) for content in box("0" * self._bits, "1" * self._bits)]
        return Store([self._bits], [(content, name) for content, name in names if name is not None], changes)

    def on(self, device, first=0):
        """Return the field in the bits first, first + 1, .. of a device."""
        return Held(self, device, first)

    def _room_of(self, content):
        """Return the room of a content that reads a state; of most kinds whoever asks comes to an end first."""
        return EVER

    def _left_of(self, content):
        """Return what is left of a content that reads a state; in most kinds each standing bit can do a change."""
        return content.count("1")


class Mark(Field):
    """One bit that can be set once."""

    def __init__(self):
        super().__init__("mark", ("clear", "set"), 1)

    def _name_of(self, content):
        return "clear" if content == "1" else "set"

    def _targets_of(self, name):
        return ["set"] if name == "clear" else []

    def _bits_for(self, content, target):
        return standing_bits(content)

    def _fallen_for(self, number):
        return [0] if number == 1 else []


class Choice(Field):
    """One of some names; for each label, which leads so many names further, there are as many bits."""

    def __init__(self, names, times):
        if not are_names(names, 2):
            raise NoField("names")
        labels = len(names) - 1
        if not is_many(times, labels):
            raise NoField("times")
        super().__init__(" ".join(["choice", str(times), *names]), tuple(names), labels * times)
        self._times = times

    def _added(self, number, label):
        """Return the number of the state to which a label leads from the state with a number."""
        return (number + label) % len(self._states)

    def _name_of(self, content):
        number = 0
        for bit in fallen_in(content):
            number = self._added(number, bit // self._times + 1)
        return self._states[number]

    def _targets_of(self, name):
        return [target for target in self._states if target != name] if name in self._states else []

    def _labelled(self, content, label):
        """Return the bits with a label that stand in a content."""
        return [bit for bit in standing_bits(content) if bit // self._times + 1 == label]

    def _bits_for(self, content, target):
        number = self._states.index(self._name_of(content))
        labels = [label for label in range(1, len(self._states))
                  if self._states[self._added(number, label)] == target]
        return self._labelled(content, labels[0])

    def _room_of(self, content):
        return min([len(self._labelled(content, label)) for label in range(1, len(self._states))])

    def _fallen_for(self, number):
        # The first state has the number 0, and each label leads from it to the state with the number of the label.
        return [] if number == 0 else [(number - 1) * self._times]


class Toggle(Choice):
    """The choice of "off" and "on"."""

    def __init__(self, times):
        super().__init__(("off", "on"), times)
        self._text = f"toggle {times}"


class Joint(Choice):
    """Two choices kept as one, so that both can change by one bit."""

    def __init__(self, first, second, times):
        if not isinstance(first, Choice) or not isinstance(second, Choice):
            raise NoField("names")
        self._first = first
        self._second = second
        super().__init__([f"{s}-{t}" for s in first.states for t in second.states], times)
        self._text = f"joint {times} [{first!s}] [{second!s}]"

    def _added(self, number, label):
        many = len(self._second.states)
        first = self._first._added(number // many, label // many)
        return first * many + self._second._added(number % many, label % many)


class Count(Field):
    """How many bits have fallen."""

    def __init__(self, top):
        if not is_many(top, 1):
            raise NoField("top")
        super().__init__(f"count {top}", tuple([f"n{number}" for number in range(top + 1)]), top)

    def _name_of(self, content):
        return self._states[len(fallen_in(content))]

    def _targets_of(self, name):
        return [target for source, target in zip(self._states, self._states[1:]) if source == name]

    def _bits_for(self, content, target):
        return standing_bits(content)

    def _fallen_for(self, number):
        return list(range(number))


class Once(Field):
    """Open, or one of some names for ever."""

    def __init__(self, names):
        if not are_names(names, 1) or "open" in names:
            raise NoField("names")
        super().__init__(" ".join(["once", *names]), ("open", *names), len(names))

    def _name_of(self, content):
        fallen = fallen_in(content)
        if not fallen:
            return "open"
        return self._states[fallen[0] + 1] if len(fallen) == 1 else None

    def _targets_of(self, name):
        return list(self._states[1:]) if name == "open" else []

    def _bits_for(self, content, target):
        return [self._states.index(target) - 1]

    def _left_of(self, content):
        return 0 if "0" in content else 1

    def _fallen_for(self, number):
        return [] if number == 0 else [number - 1]


class Held:
    """A field in bits of a device, always up to date."""

    def __init__(self, field, device, first):
        if not is_whole(first) or not 0 <= first <= len(bits_of(device.pattern)) - field.bits:
            raise NoBit("the device does not have all bits of the field")
        self._field = field
        self._device = device
        self._first = first

    @property
    def content(self):
        return bits_of(self._device.pattern)[self._first:self._first + self._field.bits]

    @property
    def sure(self):
        return self._field.room(self.content)

    @property
    def spare(self):
        return self._field.left(self.content)

    @property
    def reads(self):
        return self._field.state(self.content)

    @reads.setter
    def reads(self, value):
        self._change(value)

    def __call__(self, name):
        """Do the change to a name and return the list of the device's bits that fell."""
        return self._change(name)

    def _change(self, name):
        """Do the change to a name, unless it is the present state; return the device's bits that fell."""
        content = self.content
        if self._field.state(content) is not None and name == self._field.state(content):
            return []
        bits = [self._first + bit for bit in self._field.way(content, name)]
        for bit in bits:
            self._device.do(("fall", (bit,)))
        return bits


def assign(held, name):
    """Do the change of a held field to a name, as an assignment to what it reads does."""
    held.reads = name
