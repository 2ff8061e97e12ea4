"""Prices: ranks of patterns by three other ways to count, beside the worths."""

from fallenbits.errors import NoState, Unlike
from fallenbits.grounds import Ground, names_of
from fallenbits.masks import all_steps, number_of, single_steps
from fallenbits.patterns import lies_below, need_sizes, unlike_bits, with_erased
from fallenbits.pricerows import Told, are_price_rows, stands_along
from fallenbits.ranks import EVER, not_less, one_less
from fallenbits.worths import worths


def writes_along(ways, k):
    """Return the row of writes that some ways tell from the pattern with the number k."""
    writes = []
    while k in ways:
        _, write, k, _ = ways[k][1]
        writes.append(write)
    return tuple(writes)


def rows_along(names, parts, ways):
    """Return for each x and t whose rank in parts is not 0 a row of writes that holds for this rank."""
    return {(x, t): writes_along(ways[(names[x], t, rank)], number_of(x))
            for (x, t), rank in parts.items() if rank != 0}


def can_come(x, y, erases):
    """Tell whether y can come from x if nothing fails."""
    return x != y and (erases or lies_below(y, x))


def writes_between(x, y):
    """Return a row of writes from x to another pattern: the erases that it needs, and then one fall."""
    writes = []
    here = x
    for block, (old, new) in enumerate(zip(x.split("."), y.split("."))):
        if not lies_below(new, old):
            writes.append(("erase", block))
            here = with_erased(here, block)
    falling = unlike_bits(here, y)
    if falling:
        writes.append(("fall", tuple(falling)))
    return tuple(writes)


class Price:
    """The rank of each pattern; the base of the three ways to count, not made itself."""

    MOST_WRITES = 6

    def __init__(self, store, erases, has_parts):
        self._store = store
        self._erases = erases
        # Whether an entry of a row tells a rank of its own.
        self._has_parts = has_parts
        self._names = names_of(store)
        self._targets = {x: store.targets(name) for x, name in self._names.items()}
        self._ranks = {}
        self._parts = {}

    def _keep(self, ranks):
        """Keep the ranks of the patterns as their ranks for each target, too."""
        self._ranks = ranks
        self._parts = {(x, t): rank for x, rank in ranks.items() for t in self._targets[x]}

    def __getitem__(self, at):
        need_sizes(at, self._store.sizes)
        return self._ranks.get(at)

    def __iter__(self):
        raise TypeError("a price is not iterated over")

    def __contains__(self, x):
        return isinstance(x, str) and x in self._ranks and self._ranks[x] != 0

    def __len__(self):
        return len(self._ranks)

    def __eq__(self, other):
        return isinstance(other, Price) and self._store == other._store and self._ranks == other._ranks

    def __le__(self, other):
        if not isinstance(other, Price):
            return NotImplemented
        if self._store != other._store:
            raise Unlike("the stores differ")
        return all([not_less(other._ranks[x], rank) for x, rank in self._ranks.items()])

    def __lt__(self, other):
        if not isinstance(other, Price):
            return NotImplemented
        return self <= other and not other <= self

    def patterns(self):
        """Yield the patterns that read a state, ascending."""
        for x in self._ranks:
            yield x

    def rows(self):
        """Return for each pattern that reads a state its rank, and for each target a row of writes."""
        writes = self._rows_of_writes()
        rows = []
        for x, rank in self._ranks.items():
            moves = [(t, self._parts[(x, t)], writes.get((x, t), ())) for t in self._targets[x]]
            if not self._has_parts:
                moves = [(t, row) for t, _, row in moves]
            rows.append((x, rank, tuple(moves)))
        return rows

    def shows_rows(self, thing):
        """Tell whether a thing, any value, shows the ranks that it tells."""
        if not are_price_rows(self._targets, thing, self._has_parts):
            return False
        told = Told(self._names, thing, self._has_parts)
        for x, t, writes in told.claims():
            stands = stands_along(x, writes, self._erases)
            if stands is None or not self._holds_along(told, x, t, stands):
                return False
        return True


class Limited(Price):
    """At most n writes a change; after a failure the count begins anew, and any change may be asked."""

    def __init__(self, store, n, erases=True):
        super().__init__(store, erases, False)
        self._most = n
        ground = Ground(store, all_steps(store.sizes, erases), n)
        ranks, _, self._ways = ground.ranked()
        self._keep(ranks)

    def _rows_of_writes(self):
        return rows_along(self._names, self._parts, self._ways)

    def _holds_along(self, told, x, t, stands):
        return len(stands) <= self._most + 1 and told.holds_along(x, t, stands)


class Same(Price):
    """After a failure that leaves the old state the same change is asked again until it is done."""

    def __init__(self, store, erases=True):
        super().__init__(store, erases, True)
        # A fall of many bits can be done bit by bit here, so single writes are enough.
        self._ground = Ground(store, single_steps(store.sizes, erases), None)
        self._ranks = {x: EVER for x in self._names}
        self._parts = {(x, t): EVER for x in self._names for t in self._targets[x]}
        self._ways = {}
        self._count()

    def _count(self):
        """Count the ranks down from "ever", each with the number of the step that took its pattern away."""
        number = 0
        before = None
        while before != list(self._ranks.values()):
            before = list(self._ranks.values())
            level = self._ground.mask_of([x for x, rank in self._ranks.items() if rank == EVER])
            for s, t in self._store.changes():
                self._count_change(s, t, level, number)
            for x, t in self._parts:
                if self._ranks[x] == EVER:
                    self._ranks[x] = self._parts[(x, t)]
            number = number + 1

    def _count_change(self, s, t, level, number):
        """Give the number to the patterns from which a change to one of the level can be done so often only."""
        old = [x for x, name in self._names.items() if name == s and self._parts[(x, t)] == EVER]
        _, taken, ways = self._ground.greatest([(s, t)], self._ground.mask_of(old), level)
        for _, _, stuck in taken:
            for x in self._ground.texts_in(stuck):
                self._parts[(x, t)] = number
        # What is not taken has a greater rank; the ways of the last count are those for ever.
        self._ways[(s, t, number + 1)] = ways[(s, t)]
        self._ways[(s, t, EVER)] = ways[(s, t)]

    def rank(self, x, t):
        """Return the rank of x for one of its targets."""
        need_sizes(x, self._store.sizes)
        if x not in self._names or t not in self._targets[x]:
            raise NoState("there is no such change from what the pattern reads")
        return self._parts[(x, t)]

    def _rows_of_writes(self):
        return rows_along(self._names, self._parts, self._ways)

    def _holds_along(self, told, x, t, stands):
        return told.holds_along(x, t, stands)


class Plain(Price):
    """Nothing fails; only what stands behind a change must read the new state."""

    def __init__(self, store, erases=True):
        super().__init__(store, erases, False)
        self._goals = {}
        for x in self._names:
            for t in self._targets[x]:
                self._goals[(x, t)] = [y for y, name in self._names.items() if name == t and can_come(x, y, erases)]
        self._keep(self._counted())

    def _counted(self):
        """Return the rank of each pattern."""
        ranks = {x: 0 for x in self._names}
        level = {x: True for x in self._names}
        number = 0
        while level:
            number = number + 1
            kept = {x: True for x in level if all([self._leads_into(x, t, level) for t in self._targets[x]])}
            rank = EVER if len(kept) == len(level) else number
            for x in kept:
                ranks[x] = rank
            level = {} if rank == EVER else kept
        return ranks

    def _leads_into(self, x, t, level):
        """Tell whether a pattern of the level that reads t can come from x."""
        return any([y in level for y in self._goals[(x, t)]])

    def _rows_of_writes(self):
        writes = {}
        for (x, t), rank in self._parts.items():
            if rank != 0:
                goals = [y for y in self._goals[(x, t)] if not_less(self._ranks[y], one_less(rank))]
                writes[(x, t)] = writes_between(x, goals[0])
        return writes

    def _holds_along(self, told, x, t, stands):
        return told.is_new(x, t, stands[-1])


def prices_of(store, x, erases=True):
    """Return the four ranks of a pattern: limited by 1, worth, same and plain."""
    return (Limited(store, 1, erases)[x], worths(store, erases)[x], Same(store, erases)[x], Plain(store, erases)[x])


def enough(store, x, erases=True):
    """Return the least number of writes a change with which the rank of x is its worth, or None."""
    if store.read(x) is None:
        return None
    worth = worths(store, erases)[x]
    for n in range(1, Price.MOST_WRITES + 1):
        if Limited(store, n, erases)[x] == worth:
            return n
    return None
