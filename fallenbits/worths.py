"""Worths: how many changes any writer can survive from each pattern of a store."""

from fallenbits.drivers import Driver
from fallenbits.grounds import Ground, names_of, single_steps
from fallenbits.patterns import need_sizes
from fallenbits.ranks import not_less


def worths(store, erases=True):
    """Return the worths of the patterns of a store, whose blocks can be erased or not."""
    return Worths(store, erases)


class Worths:
    """The rank of each pattern, the table that reaches it, and the stuck sets that bar a greater one."""

    def __init__(self, store, erases):
        self._store = store
        self._names = names_of(store)
        self._ground = Ground(store, self._names, single_steps(self._names, erases), None)
        self._ranks, self._stuck = self._ground.ranked()

    def __getitem__(self, at):
        need_sizes(at, self._store.sizes)
        return self._ranks.get(at)

    def __iter__(self):
        raise TypeError("worths are not iterated over")

    def rows(self):
        """Return the table: each pattern with its rank and its moves."""
        parts = {}
        for x, name in self._names.items():
            for t in self._store.targets(name):
                parts[(x, t)] = self._ranks[x]
        ways = self._ground.told_ways(self._ranks, parts)
        rows = []
        for x, name in self._names.items():
            moves = []
            for t in self._store.targets(name):
                if (x, t) in ways:
                    distance, write, _ = ways[(x, t)][x]
                    moves.append((t, write, distance))
            rows.append((x, self._ranks[x], tuple(moves)))
        return rows

    def sets(self):
        """Return a list of stuck sets that has each pattern whose rank is a number."""
        return list(self._stuck)

    def survives(self, x, k):
        """Tell whether a writer survives k changes from x."""
        rank = self[x]
        return rank is not None and not_less(rank, k)

    def best(self):
        """Return the driver that does what the table tells."""
        rows = [(x, t, write) for x, _, moves in self.rows() for t, write, _ in moves]
        return Driver(self._store, rows)

    def most(self):
        """Return the greatest rank of a pattern whose state has a change, or None if there is none."""
        found = None
        for x, name in self._names.items():
            if self._store.targets(name) and (found is None or not_less(self._ranks[x], found)):
                found = self._ranks[x]
        return found
