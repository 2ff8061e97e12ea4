"""Worths: how many changes any writer can survive from each pattern of a store."""

from fallenbits.drivers import Driver
from fallenbits.grounds import Ground, names_of
from fallenbits.masks import number_of, single_steps
from fallenbits.patterns import need_sizes
from fallenbits.ranks import not_less


def worths(store, erases=True):
    """Return the worths of the patterns of a store, whose blocks can be erased or not."""
    return Worths(store, erases)


class Worths:
    """The rank of each pattern, the table that reaches it, and the stuck sets that bar a greater one."""

    def __init__(self, store, erases):
        self._store = store
        self._names = names_of(store)
        self._targets = {name: store.targets(name) for name in store.states}
        ground = Ground(store, single_steps(store.sizes, erases), None)
        self._ranks, self._stuck, self._ways = ground.ranked()

    def __getitem__(self, at):
        if at not in self._store:
            need_sizes(at, self._store.sizes)
        return self._ranks.get(at)

    def __iter__(self):
        raise TypeError("worths are not iterated over")

    def rows(self):
        """Return the table: each pattern with its rank and its moves."""
        rows = []
        for x, name in self._names.items():
            rank = self._ranks[x]
            moves = []
            if rank != 0:
                k = number_of(x)
                for t in self._targets[name]:
                    many, step = self._ways[(name, t, rank)][k]
                    moves.append((t, step[1], many))
            rows.append((x, rank, tuple(moves)))
        return rows

    def sets(self):
        """Return a list of stuck sets that has each pattern whose rank is a number."""
        return list(self._stuck)

    def survives(self, x, k):
        """Tell whether a writer survives k changes from x."""
        rank = self[x]
        return rank is not None and not_less(rank, k)

    def best(self):
        """Return the driver that does what the table tells."""
        rows = [(x, t, write) for x, _, moves in self.rows() for t, write, _ in moves]
        return Driver(self._store, rows)

    def most(self):
        """Return the greatest rank of a pattern whose state has a change, or None if there is none."""
        found = None
        for x, name in self._names.items():
            if self._targets[name] and (found is None or not_less(self._ranks[x], found)):
                found = self._ranks[x]
        return found
