"""Stores: what each pattern reads as, and which changes of states there are."""

from fallenbits.errors import NoOrder, NoStore, Unlike
from fallenbits.patterns import is_number, is_whole, need_sizes, places_of
from fallenbits.writes import is_pair

MOST_BLOCKS = 3
MOST_BITS = 6
MOST_RULES = 64
MOST_CHANGES = 16
MOST_NAME_SIGNS = 12
LETTERS = "abcdefghijklmnopqrstuvwxyz"
NAME_SIGNS = "abcdefghijklmnopqrstuvwxyz0123456789-"


def is_name(thing):
    """Tell whether thing is a name."""
    if not isinstance(thing, str) or not 1 <= len(thing) <= MOST_NAME_SIGNS:
        return False
    return thing[0] in LETTERS and all([sign in NAME_SIGNS for sign in thing])


def is_mask(thing, sizes):
    """Tell whether thing is written like a pattern of the sizes, with "*" at any bit."""
    if not isinstance(thing, str):
        return False
    return thing.replace("*", "0").replace("1", "0") == ".".join(["0" * size for size in sizes])


def matches(mask, x):
    """Tell whether a mask matches a pattern of the same sizes."""
    return all([sign == "*" or sign == bit for sign, bit in zip(mask, x)])


def is_rule(thing, sizes):
    """Tell whether thing is a tuple of a mask and a name."""
    if not is_pair(thing):
        return False
    mask, name = thing
    return is_mask(mask, sizes) and is_name(name)


def is_change(thing):
    """Tell whether thing is a tuple of two different names."""
    if not is_pair(thing):
        return False
    source, target = thing
    return is_name(source) and is_name(target) and source != target


def check_sizes(sizes):
    """Raise NoStore if sizes are not the sizes of a store."""
    if not isinstance(sizes, list) or not sizes:
        raise NoStore("sizes", None)
    bits = 0
    for at, size in enumerate(sizes):
        if at == MOST_BLOCKS or not is_whole(size) or size < 1:
            raise NoStore("sizes", at)
        bits = bits + size
        if bits > MOST_BITS:
            raise NoStore("sizes", at)


def check_rules(rules, sizes):
    """Raise NoStore if rules are not the rules of a store of these sizes."""
    if not isinstance(rules, list):
        raise NoStore("rules", None)
    for at, rule in enumerate(rules):
        if at == MOST_RULES or not is_rule(rule, sizes):
            raise NoStore("rules", at)


def check_changes(changes):
    """Raise NoStore if changes are not the changes of a store."""
    if not isinstance(changes, list):
        raise NoStore("changes", None)
    for at, change in enumerate(changes):
        if at == MOST_CHANGES or not is_change(change) or change in changes[:at]:
            raise NoStore("changes", at)


def state_names(rules, changes):
    """Return the tuple of the names in rules and changes, each once, ascending."""
    names = [name for mask, name in rules]
    for change in changes:
        names.extend(change)
    return tuple(sorted(set([str(name) for name in names])))


def matched(mask):
    """Return the patterns that a mask matches, ascending."""
    parts = mask.split("*")
    found = [parts[0]]
    for part in parts[1:]:
        found = [text + bit + part for text in found for bit in ("0", "1")]
    return found


def readings(sizes, rules):
    """Return a dict from all patterns of the sizes, ascending, to their names or None."""
    names = {}
    for mask, name in rules:
        for x in matched(mask):
            # The first rule that matches decides.
            if x not in names:
                names[x] = name
    return {x: names.get(x) for x in matched(".".join(["*" * size for size in sizes]))}


def need_each_bit(order, many):
    """Raise NoOrder if order is no tuple of the numbers of all bits, each once."""
    if not isinstance(order, tuple) or len(order) != many:
        raise NoOrder("this is no tuple of as many numbers as there are bits")
    if not all([is_number(bit, many) for bit in order]) or len(set(order)) != many:
        raise NoOrder("these are not the numbers of all bits, each once")


def need_order(order, sizes):
    """Raise NoOrder if order does not have each bit once, or takes one to another block."""
    need_each_bit(order, sum(sizes))
    blocks = [block for block, size in enumerate(sizes) for _ in range(size)]
    if not all([blocks[bit] == block for bit, block in zip(order, blocks)]):
        raise NoOrder("a bit cannot go to another block")


def reordered(mask, order):
    """Return the mask whose bit order[p] is the bit p of mask."""
    places = places_of(mask)
    signs = list(mask)
    for place, bit in zip(places, order):
        signs[places[bit]] = mask[place]
    return "".join(signs)


class Store:
    """Sizes, rules that read patterns as states, and changes of states."""

    def __init__(self, sizes, rules, changes):
        check_sizes(sizes)
        check_rules(rules, tuple(sizes))
        check_changes(changes)
        self._sizes = tuple(sizes)
        self._rules = list(rules)
        self._changes = list(changes)
        self._states = state_names(rules, changes)
        self._readings = readings(sizes, rules)

    @property
    def sizes(self):
        return self._sizes

    @property
    def states(self):
        return self._states

    def rules(self):
        """Return the rules as they were given."""
        return list(self._rules)

    def changes(self):
        """Return the changes as they were given."""
        return list(self._changes)

    def read(self, x):
        """Return the name that x reads, or None if it reads nothing."""
        need_sizes(x, self._sizes)
        return self._readings[x]

    def targets(self, name):
        """Return the targets of the changes from name, ascending."""
        return sorted([str(target) for source, target in self._changes if source == name])

    def patterns(self):
        """Yield all patterns of the sizes, ascending."""
        for x in self._readings:
            yield x

    def parted(self, other):
        """Return the first pattern that the two stores read differently, or None."""
        if self._sizes != other.sizes:
            raise Unlike("the sizes differ")
        for x, name in self._readings.items():
            if other.read(x) != name:
                return x
        return None

    def renamed(self, order):
        """Return the store in which the bit p has become the bit order[p]."""
        need_order(order, self._sizes)
        rules = [(reordered(mask, order), name) for mask, name in self._rules]
        return Store(list(self._sizes), rules, self._changes)

    def __len__(self):
        return len(self._readings)

    def __contains__(self, x):
        return isinstance(x, str) and x in self._readings

    def __eq__(self, other):
        if not isinstance(other, Store):
            return False
        # The patterns that are the keys of the readings tell the sizes, too.
        return self._readings == other._readings and set(self._changes) == set(other._changes)
