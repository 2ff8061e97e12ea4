"""Keepers: a record of several fields that is kept for ever in two blocks."""

from fallenbits.errors import Foreign, NoField, NoRoom, NoState, Unlike
from fallenbits.fields import Field
from fallenbits.patterns import Pattern, need_sizes, sizes_of
from fallenbits.rolling import FREE, HEADER, MARKS, has_spoilt_header, headers_first, held_content, live_block, move
from fallenbits.stores import is_name
from fallenbits.writes import is_pair


def check_fields(fields):
    """Raise NoField if fields is no list of pairs of unlike names and fields."""
    if not isinstance(fields, list) or not fields:
        raise NoField(None)
    passed = {}
    for item in fields:
        if not is_pair(item):
            raise NoField(None)
        name, field = item
        if not is_name(name) or name in passed or not isinstance(field, Field):
            raise NoField(name)
        passed[name] = True


def many_bits(fields):
    """Return how many bits some pairs of names and fields have together."""
    return sum([field.bits for _, field in fields])


class Keeper:
    """The fields of a record, on a device with two rolling blocks."""

    def __init__(self, device, fields):
        check_fields(fields)
        size = HEADER + many_bits(fields)
        if sizes_of(device.pattern) != (size, size):
            raise Unlike("the device does not have two blocks for the fields and a header")
        self._device = device
        self._size = size
        self._names = tuple([name for name, _ in fields])
        self._fields = {}
        self._places = {}
        first = 0
        for name, field in fields:
            self._fields[name] = field
            self._places[name] = first
            first = first + field.bits
        self._rolls = 0
        self._now()

    @staticmethod
    def begun(fields):
        """Return the pattern of a new device for some fields."""
        check_fields(fields)
        bits = many_bits(fields)
        if 2 * (HEADER + bits) > Pattern.BITS:
            raise NoField("bits")
        return ".".join([header + "1" * bits for header in (MARKS[0], FREE)])

    @property
    def names(self):
        return self._names

    @property
    def record(self):
        return self._now()

    @property
    def live(self):
        self._now()
        return live_block(self._device.pattern)

    @property
    def rolls(self):
        return self._rolls

    def __len__(self):
        return len(self._names)

    def __contains__(self, x):
        return isinstance(x, str) and x in self._fields

    def __getitem__(self, at):
        self._need_field(at)
        return self._now()[at]

    def __setitem__(self, at, worth):
        self.put([(at, worth)])

    def __iter__(self):
        raise TypeError("a keeper is not iterated over")

    def room(self, name):
        """Return the room of a field in the live block."""
        self._need_field(name)
        self._now()
        return self._fields[name].room(self._part(self._device.pattern, name))

    def change(self, **targets):
        """Change fields by keywords, as put does; return how many writes have ended."""
        return self.put(list(targets.items()))

    def put(self, targets):
        """Change fields by a list of pairs of names and targets; return how many writes have ended."""
        self._need_targets(targets)
        record = self._now()
        wanted = {name: target for name, target in targets if target != record[name]}
        for name, target in wanted.items():
            if target not in self._fields[name].targets(record[name]):
                raise NoState("there is no such change from the present state of the field")
        if not wanted:
            return 0
        bits = self._bits_in_place(wanted)
        if not bits:
            return self._roll({**record, **wanted})
        for bit in bits:
            self._device.do(("fall", (bit,)))
        return len(bits)

    def told(self, z):
        """Return the record that a pattern holds, or None; a header may be spoilt."""
        need_sizes(z, (self._size, self._size))
        return self._held_record(z)

    def order(self):
        """Return the order in which a slow reader takes the bits of the device."""
        return headers_first(self._device.pattern)

    def _need_field(self, name):
        """Raise NoField if no field has this name."""
        if name not in self:
            raise NoField(name)

    def _need_targets(self, targets):
        """Raise NoField if targets are no list of pairs of unlike names of fields and anything."""
        if not isinstance(targets, list):
            raise NoField(None)
        passed = {}
        for item in targets:
            if not is_pair(item):
                raise NoField(None)
            name = item[0]
            if name not in self or name in passed:
                raise NoField(name)
            passed[name] = True

    def _part(self, x, name):
        """Return the content of a field in the live block of a pattern."""
        first = self._places[name]
        return held_content(x)[first:first + self._fields[name].bits]

    def _held_record(self, x):
        """Return the record that a pattern of the device's sizes holds, or None."""
        if live_block(x) is None:
            return None
        record = {name: self._fields[name].state(self._part(x, name)) for name in self._names}
        return None if None in list(record.values()) else record

    def _now(self):
        """Return the record that the device holds; raise Foreign if it is foreign."""
        x = self._device.pattern
        record = self._held_record(x)
        if record is None or has_spoilt_header(x):
            raise Foreign(x)
        return record

    def _bits_in_place(self, wanted):
        """Return the bits of the device that fall if one field alone is changed where it stands, or none."""
        if len(wanted) > 1:
            return []
        x = self._device.pattern
        name = list(wanted)[0]
        try:
            way = self._fields[name].way(self._part(x, name), wanted[name])
        except NoRoom:
            return []
        first = live_block(x) * self._size + HEADER + self._places[name]
        return [first + bit for bit in way]

    def _roll(self, record):
        """Move to a content that holds a record; return how many writes have ended."""
        fresh = "".join([self._fields[name].image(record[name]) for name in self._names])
        writes = move(self._device.pattern, fresh)
        for write in writes:
            self._device.do(write)
        self._rolls += 1
        return len(writes)


def kept(device, **fields):
    """Return the keeper of fields that are given by keywords."""
    return Keeper(device, list(fields.items()))
