"""Tables and stuck sets: whether a thing, any value, is one that holds."""

from fallenbits.grounds import names_of, single_steps
from fallenbits.patterns import is_whole
from fallenbits.ranks import is_rank, not_less, one_less
from fallenbits.writes import end, is_tuple_of, may_write, write_box


def is_table_entry(thing, t):
    """Tell whether thing is a tuple of t, anything and a distance."""
    return is_tuple_of(thing, 3) and thing[0] == t and is_whole(thing[2]) and thing[2] >= 1


def is_table_row(store, thing):
    """Tell whether thing is a tuple of a pattern that reads a state, a rank and the moves that belong to them."""
    if not is_tuple_of(thing, 3) or thing[0] not in store or not is_rank(thing[1]):
        return False
    x, rank, moves = thing
    name = store.read(x)
    if name is None:
        return False
    targets = store.targets(name)
    if rank == 0:
        return moves == ()
    return is_tuple_of(moves, len(targets)) and all([is_table_entry(entry, t) for entry, t in zip(moves, targets)])


class Table:
    """The rows of a table, each of the right form by itself."""

    def __init__(self, store, rows, erases):
        self._store = store
        self._erases = erases
        self._ranks = {x: rank for x, rank, _ in rows}
        self._distances = {(x, t): distance for x, _, moves in rows for t, _, distance in moves}

    def row_holds(self, x, moves):
        """Tell whether each entry of the row of x holds."""
        return all([self._entry_holds(x, t, write) for t, write, _ in moves])

    def _entry_holds(self, x, t, write):
        if not may_write(x, write, self._erases):
            return False
        if not all([self._can_stand(x, t, z) for z in write_box(x, write)]):
            return False
        return self._comes_nearer(x, t, end(x, write))

    def _can_stand(self, x, t, z):
        """Tell whether z has a row and a rank with which a failure may leave it on the way from x to t."""
        if z not in self._ranks:
            return False
        name = self._store.read(z)
        if name == t:
            return not_less(self._ranks[z], one_less(self._ranks[x]))
        return name == self._store.read(x) and not_less(self._ranks[z], self._ranks[x])

    def _comes_nearer(self, x, t, after):
        """Tell whether after reads t, has a greater rank than x, or the same one and a lesser distance to t."""
        if self._store.read(after) == t or self._ranks[after] != self._ranks[x]:
            # A lesser rank of a pattern in the box has been barred before.
            return True
        return self._distances[(after, t)] < self._distances[(x, t)]


def is_table(store, rows, erases=True):
    """Tell whether rows, any value, are a table of the store that holds."""
    if not isinstance(rows, list) or not all([is_table_row(store, row) for row in rows]):
        return False
    if not all([one[0] < other[0] for one, other in zip(rows, rows[1:])]):
        return False
    table = Table(store, rows, erases)
    return all([table.row_holds(x, moves) for x, _, moves in rows])


def are_patterns_of(names, s, thing):
    """Tell whether thing is an ascending tuple of at least one pattern that reads s, none twice."""
    if not isinstance(thing, tuple) or not thing:
        return False
    if not all([isinstance(x, str) and names.get(x) == s for x in thing]):
        return False
    return all([one < other for one, other in zip(thing, thing[1:])])


def is_stuck_set(names, changes, thing):
    """Tell whether thing is a tuple of a number, the two states of a change and patterns that read the first."""
    if not is_tuple_of(thing, 4) or not is_whole(thing[0]) or thing[0] < 1:
        return False
    return thing[1:3] in changes and are_patterns_of(names, thing[1], thing[3])


class Bars:
    """The stuck sets so far, by the least number with which each pattern stands in one."""

    def __init__(self, names, erases):
        self._names = names
        self._steps = single_steps(names, erases)
        self._least = {}

    def holds(self, stuck):
        """Tell whether a stuck set holds behind those so far."""
        members = stuck[3]
        return all([after in members or any([self._is_bad(z, stuck) for z in near])
                    for x in members for _, after, near in self._steps[x]])

    def _is_bad(self, z, stuck):
        """Tell whether a failure that leaves z bars a write of a stuck set."""
        k, s, t, _ = stuck
        name = self._names.get(z)
        if name == s:
            return z in self._least and self._least[z] <= k
        if name == t:
            return z in self._least and self._least[z] < k
        return True

    def take(self, stuck):
        """Add a stuck set to those so far."""
        k = stuck[0]
        for x in stuck[3]:
            if x not in self._least or self._least[x] > k:
                self._least[x] = k


def is_barred(store, sets, erases=True):
    """Tell whether sets, any value, are a list of stuck sets that holds."""
    if not isinstance(sets, list):
        return False
    names = names_of(store)
    changes = store.changes()
    bars = Bars(names, erases)
    for stuck in sets:
        if not is_stuck_set(names, changes, stuck) or not bars.holds(stuck):
            return False
        bars.take(stuck)
    return True
