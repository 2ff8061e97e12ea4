"""The desk: a store, a driver and a device that are built and used line by line."""

from fallenbits.devices import Device
from fallenbits.drivers import Driver
from fallenbits.errors import Cut, NoDriver, NoPattern, NoRow, NoState, NoStore, NotInBox, Stranded, Unlike
from fallenbits.hands import Hand
from fallenbits.judge import judge
from fallenbits.patterns import need_sizes
from fallenbits.stores import Store
from fallenbits.texts import are_number_words, is_number_word, row_read, show_event
from fallenbits.worths import worths

MOST_ASKED = 7
NOTHING = "nothing"
FALLS = "falls"
# How many words stand behind the first one of a line, at least and at most; None for no limit.
MANY_WORDS = {
    "sizes": (1, None), "rule": (2, 2), "change": (2, 2), "row": (4, None), "read": (1, 1), "worth": (1, 2),
    "judge": (1, 2), "start": (1, 1), "stands": (0, 0), "cut": (1, 1), "wake": (0, 0), "ask": (1, 1)}
ON_STORE = ("rule", "change", "row")
ON_DEVICE = ("stands", "cut", "wake", "ask")


def has_form(word, rest):
    """Tell whether the words behind a first word, not too many and not too few, are numbers where they must be."""
    if word == "sizes":
        return are_number_words(rest)
    if word == "row":
        return are_number_words(rest[3:]) and (rest[2] == "fall" or (rest[2] == "erase" and len(rest) == 4))
    if word == "worth":
        return rest[1:] in ([], [FALLS])
    if word == "judge":
        return all([is_number_word(many) and int(many) <= MOST_ASKED for many in rest[1:]])
    return True


def words_of(line):
    """Return the words of a line; raise NoRow for what is none."""
    if not isinstance(line, str):
        raise NoRow("this is no text")
    words = line.split(" ")
    if words[0] not in MANY_WORDS:
        raise NoRow("no line begins with this word")
    least, most = MANY_WORDS[words[0]]
    many = len(words) - 1
    if many < least or (most is not None and many > most) or not has_form(words[0], words[1:]):
        raise NoRow("no line has these words")
    return words


def told(thing):
    """Return the text of a name or a rank, or that there is none."""
    return NOTHING if thing is None else str(thing)


class Desk:
    """What the lines so far have built."""

    def __init__(self):
        self._store = None
        self._driver = None
        self._device = None

    def run(self, *lines):
        """Do some lines and return the list of what they tell."""
        return [self.say(line) for line in lines]

    def say(self, line):
        """Do a line and return what it tells."""
        words = words_of(line)
        try:
            return self._done(words[0], words[1:])
        except NoPattern:
            return "refused NoPattern"
        except Unlike:
            return "refused Unlike"
        except NoStore:
            return "refused NoStore"
        except NoDriver:
            return "refused NoDriver"
        except NoState:
            return "refused NoState"
        except Stranded:
            return "refused Stranded"
        except NotInBox:
            return "refused NotInBox"
        except Cut:
            return "refused Cut"

    def _done(self, word, rest):
        """Do a line of the right form and return what it tells."""
        if word == "sizes":
            return self._begin(rest)
        if self._store is None:
            raise NoStore("sizes", None)
        if word in ON_DEVICE:
            return "no device" if self._device is None else self._on_device(word, rest)
        if word in ON_STORE:
            return self._add_line(word, rest)
        if word == "start":
            return self._started(rest[0])
        if word == "read":
            return told(self._store.read(rest[0]))
        if word == "worth":
            return told(worths(self._store, rest[1:] != [FALLS])[rest[0]])
        return self._judged(rest)

    def _begin(self, rest):
        """Begin a store of these sizes, and forget all else."""
        self._keep(Store([int(size) for size in rest], [], []), [])
        self._device = None
        return "ok"

    def _add_line(self, word, rest):
        """Add a rule or a change to the store, or a row to the driver."""
        rules = self._store.rules()
        changes = self._store.changes()
        if word == "row":
            self._keep(self._store, self._driver.rows() + [row_read(rest)])
        elif word == "rule":
            self._keep(Store(list(self._store.sizes), rules + [tuple(rest)], changes), self._driver.rows())
        else:
            self._keep(Store(list(self._store.sizes), rules, changes + [tuple(rest)]), self._driver.rows())
        return "ok"

    def _keep(self, store, rows):
        """Keep a store and the driver of it that has these rows."""
        self._driver = Driver(store, rows)
        self._store = store

    def _started(self, x):
        """Begin a device."""
        need_sizes(x, self._store.sizes)
        self._device = Device(x)
        return "ok"

    def _judged(self, rest):
        """Return what the judge tells of the driver."""
        changes = int(rest[1]) if len(rest) == 2 else None
        kind, found = judge(self._store, self._driver, rest[0], changes)
        if kind == "closed":
            return f"closed {len(found)}"
        events = ", ".join([show_event(event) for event in found])
        return f"{kind}: {events}" if found else f"{kind}: none"

    def _on_device(self, word, rest):
        """Do a line that needs a device and return what it tells."""
        device = self._device
        if word == "stands":
            return f"{device.pattern} {told(self._store.read(device.pattern))}"
        if word == "cut":
            device.arm(rest[0])
            return "ok"
        hand = Hand(self._store, self._driver)
        return str(hand.wake(device) if word == "wake" else hand(device, rest[0]))
