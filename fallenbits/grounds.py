"""Grounds: the writes of a store's patterns, and which rows of them no failure can spoil."""

from fallenbits.ranks import EVER


def names_of(store):
    """Return a dict from the patterns that read a state, ascending, to the names that they read."""
    names = {}
    for x in store.patterns():
        name = store.read(x)
        if name is not None:
            names[x] = name
    return names


def ways_to(goals, steps, most):
    """Return for each pattern with a way to the goals how many steps it takes, and the first one."""
    found = {}
    many = 1
    ends = goals
    rest = steps
    while ends and rest and (most is None or many <= most):
        fresh = 0
        for step in rest:
            k, _, after, _ = step
            if (ends >> after) & 1 and k not in found:
                found[k] = (many, step)
                fresh = fresh | (1 << k)
        ends = fresh
        rest = [step for step in rest if step[0] not in found]
        many = many + 1
    return found


def sources_of(ways):
    """Return the mask of the patterns from which some ways lead."""
    mask = 0
    for k in ways:
        mask = mask | (1 << k)
    return mask


def passed_by(ways):
    """Return the mask of the patterns in the boxes of some ways."""
    mask = 0
    for _, step in ways.values():
        mask = mask | step[3]
    return mask


class Ground:
    """The patterns of a store that read a state, with steps; a change has at most so many of them, or any number.

    Sets of patterns are masks here.
    """

    def __init__(self, store, steps, most):
        self._most = most
        self._texts = list(store.patterns())
        self._changes = store.changes()
        self._reads = {name: 0 for name in store.states}
        names = [store.read(x) for x in self._texts]
        for k, name in enumerate(names):
            if name is not None:
                self._reads[name] = self._reads[name] | (1 << k)
        by_name = {name: [] for name in self._reads}
        for step in steps:
            name = names[step[0]]
            if name is not None:
                by_name[name].append(step)
        self._steps = {}
        for s, t in self._changes:
            barred = ~(self._reads[s] | self._reads[t])
            self._steps[(s, t)] = [step for step in by_name[s] if not step[3] & barred]

    def mask_of(self, texts):
        """Return the mask of some patterns."""
        wanted = {x: True for x in texts}
        mask = 0
        for k, x in enumerate(self._texts):
            if x in wanted:
                mask = mask | (1 << k)
        return mask

    def texts_in(self, mask):
        """Return the patterns of a mask, ascending."""
        return [x for k, x in enumerate(self._texts) if (mask >> k) & 1]

    def ways(self, change, old, new):
        """Return the ways of a change whose boxes read the old state within old, or the new one within new.

        This is a dict from the patterns with such a way to how many steps it takes, and the first one.
        """
        s, t = change
        goals = new & self._reads[t]
        barred = ~((old & self._reads[s]) | goals)
        free = [step for step in self._steps[change] if not step[3] & barred]
        return ways_to(goals, free, self._most)

    def greatest(self, changes, old, new):
        """Return the greatest part of old from all of which there is a way for each of the changes.

        Beside it stands a list of the tuples (s, t, mask) that were taken away, one after the other, and a dict from
        the changes to their ways.
        """
        kept = old
        taken = []
        ways = {}
        pending = changes
        while pending:
            before = kept
            for s, t in pending:
                ways[(s, t)] = self.ways((s, t), kept, new)
                stuck = kept & self._reads[s] & ~sources_of(ways[(s, t)])
                if stuck:
                    taken.append((s, t, stuck))
                    kept = kept & ~stuck
            gone = before & ~kept
            # Other ways than these stay as they are: no pattern of the old state in their boxes has gone.
            pending = [(s, t) for s, t in changes if passed_by(ways[(s, t)]) & gone & self._reads[s]]
        return (kept, taken, ways)

    def ranked(self):
        """Return a dict of the rank of each pattern, a list of stuck sets that holds, and the ways for each rank.

        The ways are those of a change (s, t) for a rank by the key (s, t, rank).
        """
        sets = []
        found = {}
        level = 0
        for mask in self._reads.values():
            level = level | mask
        ranks = {x: 0 for x in self.texts_in(level)}
        number = 0
        while level:
            number = number + 1
            kept, taken, ways = self.greatest(self._changes, level, level)
            sets.extend([(number, s, t, tuple(self.texts_in(stuck))) for s, t, stuck in taken])
            rank = number if taken else EVER
            for x in self.texts_in(kept):
                ranks[x] = rank
            found.update({(s, t, rank): ways[(s, t)] for s, t in self._changes})
            level = kept if taken else 0
        return (ranks, sets, found)
