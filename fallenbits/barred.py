"""Tables and stuck sets: whether a thing, any value, is one that holds."""

from fallenbits.grounds import names_of
from fallenbits.masks import bit_weights, block_weights, box_mask, number_of, single_steps
from fallenbits.patterns import is_whole
from fallenbits.ranks import is_rank, not_less, one_less
from fallenbits.writes import fits, is_tuple_of


def is_table_entry(thing, t):
    """Tell whether thing is a tuple of t, anything and a distance."""
    return is_tuple_of(thing, 3) and thing[0] == t and is_whole(thing[2]) and thing[2] >= 1


def is_table_row(names, targets, thing):
    """Tell whether thing is a tuple of a pattern that reads a state, a rank and the moves that belong to them."""
    if not is_tuple_of(thing, 3) or not isinstance(thing[0], str) or thing[0] not in names or not is_rank(thing[1]):
        return False
    x, rank, moves = thing
    wanted = targets[names[x]]
    if rank == 0:
        return moves == ()
    return is_tuple_of(moves, len(wanted)) and all([is_table_entry(entry, t) for entry, t in zip(moves, wanted)])


class Table:
    """The rows of a table, each of the right form by itself."""

    def __init__(self, store, names, rows, erases):
        self._erases = erases
        self._bits = bit_weights(store.sizes)
        self._blocks = block_weights(store.sizes)
        self._numbers = {x: number_of(x) for x in names}
        self._reads = {self._numbers[x]: name for x, name in names.items()}
        self._ranks = {self._numbers[x]: rank for x, rank, _ in rows}
        self._distances = {(self._numbers[x], t): distance for x, _, moves in rows for t, _, distance in moves}
        self._found_free = {}

    def row_holds(self, x, moves):
        """Tell whether each entry of the row of x holds."""
        return all([self._entry_holds(x, self._numbers[x], t, write) for t, write, _ in moves])

    def _free(self, s, t, rank):
        """Return the mask of the patterns that a failure may leave on the way from s to t, at a pattern with a rank."""
        if (s, t, rank) not in self._found_free:
            mask = 0
            for k, other in self._ranks.items():
                name = self._reads[k]
                if (name == s and not_less(other, rank)) or (name == t and not_less(other, one_less(rank))):
                    mask = mask | (1 << k)
            self._found_free[(s, t, rank)] = mask
        return self._found_free[(s, t, rank)]

    def _end(self, k, write):
        """Return the number of the end of a write from the pattern with the number k."""
        word, what = write
        if word == "erase":
            return k | self._blocks[what]
        return k - sum([self._bits[bit] for bit in what])

    def _entry_holds(self, x, k, t, write):
        """Tell whether the entry for t of x, the pattern with the number k, holds."""
        if not fits(x, write) or (write[0] == "erase" and not self._erases):
            return False
        after = self._end(k, write)
        if box_mask(k, after) & ~self._free(self._reads[k], t, self._ranks[k]):
            return False
        if self._reads[after] == t or self._ranks[after] != self._ranks[k]:
            # A lesser rank of a pattern in the box has been barred before.
            return True
        return self._distances[(after, t)] < self._distances[(k, t)]


def is_table(store, rows, erases=True):
    """Tell whether rows, any value, are a table of the store that holds."""
    names = names_of(store)
    targets = {name: store.targets(name) for name in store.states}
    if not isinstance(rows, list) or not all([is_table_row(names, targets, row) for row in rows]):
        return False
    if not all([one[0] < other[0] for one, other in zip(rows, rows[1:])]):
        return False
    table = Table(store, names, rows, erases)
    return all([table.row_holds(x, moves) for x, _, moves in rows])


def are_patterns_of(names, s, thing):
    """Tell whether thing is an ascending tuple of at least one pattern that reads s, none twice."""
    if not isinstance(thing, tuple) or not thing:
        return False
    if not all([isinstance(x, str) and names.get(x) == s for x in thing]):
        return False
    return all([one < other for one, other in zip(thing, thing[1:])])


def is_stuck_set(names, changes, thing):
    """Tell whether thing is a tuple of a number, the two states of a change and patterns that read the first."""
    if not is_tuple_of(thing, 4) or not is_whole(thing[0]) or thing[0] < 1:
        return False
    return thing[1:3] in changes and are_patterns_of(names, thing[1], thing[3])


class Bars:
    """The stuck sets so far, by the least number with which each pattern stands in one."""

    def __init__(self, store, names, erases):
        self._steps = {k: [] for k in range(len(store))}
        for k, _, after, near in single_steps(store.sizes, erases):
            self._steps[k].append((after, near))
        self._reads = {name: 0 for name in store.states}
        for x, name in names.items():
            self._reads[name] = self._reads[name] | (1 << number_of(x))
        self._least = {}

    def holds(self, stuck):
        """Tell whether a stuck set holds behind those so far."""
        number, s, t, texts = stuck
        members = 0
        for x in texts:
            members = members | (1 << number_of(x))
        good = (self._reads[s] & ~self._barred(number)) | (self._reads[t] & ~self._barred(number - 1))
        return all([(members >> after) & 1 == 1 or near & ~good != 0
                    for x in texts for after, near in self._steps[number_of(x)]])

    def _barred(self, most):
        """Return the mask of the patterns that stand in a stuck set with at most this number."""
        mask = 0
        for k, least in self._least.items():
            if least <= most:
                mask = mask | (1 << k)
        return mask

    def take(self, stuck):
        """Add a stuck set to those so far."""
        number, _, _, texts = stuck
        for x in texts:
            k = number_of(x)
            if k not in self._least or self._least[k] > number:
                self._least[k] = number


def is_barred(store, sets, erases=True):
    """Tell whether sets, any value, are a list of stuck sets that holds."""
    if not isinstance(sets, list):
        return False
    names = names_of(store)
    changes = store.changes()
    bars = Bars(store, names, erases)
    for stuck in sets:
        if not is_stuck_set(names, changes, stuck) or not bars.holds(stuck):
            return False
        bars.take(stuck)
    return True
