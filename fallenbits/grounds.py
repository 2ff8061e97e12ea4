"""Grounds: the writes of a store's patterns, and which rows of them no failure can spoil."""

from fallenbits.ranks import EVER, not_less, one_less
from fallenbits.writes import all_writes, end, single_writes, write_box


def names_of(store):
    """Return a dict from the patterns that read a state, ascending, to the names that they read."""
    names = {}
    for x in store.patterns():
        name = store.read(x)
        if name is not None:
            names[x] = name
    return names


def steps_by(x, writes):
    """Return tuples of each of some writes from x, its end and its box."""
    return [(write, end(x, write), write_box(x, write)) for write in writes]


def single_steps(names, erases):
    """Return for each pattern its steps by single writes."""
    return {x: steps_by(x, single_writes(x, erases)) for x in names}


def all_steps(names, erases):
    """Return for each pattern its steps by all writes."""
    return {x: steps_by(x, list(all_writes(x, erases))) for x in names}


def is_within(near, allowed):
    """Tell whether each pattern of a box is allowed."""
    return all([z in allowed for z in near])


def ways_to(goals, steps, most):
    """Return for each pattern with a way to the goals: how many steps it takes, the first write and its end."""
    found = {}
    many = 1
    ends = goals
    while ends and (most is None or many <= most):
        fresh = {}
        for x in steps:
            if x not in found:
                for write, after in steps[x]:
                    if after in ends:
                        fresh[x] = (many, write, after)
                        break
        found.update(fresh)
        ends = fresh
        many = many + 1
    return found


class Ground:
    """The patterns of a store that read a state, with steps; a change has at most so many of them, or any number."""

    def __init__(self, store, names, steps, most):
        self._names = names
        self._most = most
        self._changes = store.changes()
        self._steps = {}
        for s, t in self._changes:
            both = {x: True for x, name in names.items() if name in (s, t)}
            self._steps[(s, t)] = {x: [step for step in steps[x] if is_within(step[2], both)]
                                   for x in both if names[x] == s}

    def ways(self, change, old, new):
        """Return the ways of a change whose boxes read the old state within old, or the new one within new.

        This is a dict from the patterns with such a way to how many steps it takes, the first write and its end.
        """
        s, t = change
        goals = {z: True for z in new if self._names[z] == t}
        allowed = {z: True for z in old if self._names[z] == s}
        allowed.update(goals)
        free = {x: [(write, after) for write, after, near in steps if is_within(near, allowed)]
                for x, steps in self._steps[change].items()}
        return ways_to(goals, free, self._most)

    def greatest(self, changes, old, new):
        """Return the greatest part of old from all of which there is a way for each of the changes.

        Beside it stands a list of the tuples (s, t, patterns) that were taken away, one after the other.
        """
        kept = old
        taken = []
        before = None
        while before != len(kept):
            before = len(kept)
            for s, t in changes:
                found = self.ways((s, t), kept, new)
                stuck = [x for x in kept if self._names[x] == s and x not in found]
                if stuck:
                    taken.append((s, t, tuple(stuck)))
                    kept = [x for x in kept if x not in stuck]
        return (kept, taken)

    def ranked(self):
        """Return a dict of the rank of each pattern, and a list of stuck sets that holds."""
        ranks = {x: 0 for x in self._names}
        sets = []
        level = list(self._names)
        number = 0
        while level:
            number = number + 1
            kept, taken = self.greatest(self._changes, level, level)
            sets.extend([(number, s, t, stuck) for s, t, stuck in taken])
            rank = number if taken else EVER
            for x in kept:
                ranks[x] = rank
            level = kept if taken else []
        return (ranks, sets)

    def told_ways(self, ranks, parts):
        """Return for each x and t whose rank in parts is not 0 the ways that hold for this rank."""
        found = {}
        by_rank = {}
        for (x, t), rank in parts.items():
            if rank == 0:
                continue
            s = self._names[x]
            if (s, t, rank) not in by_rank:
                old = [z for z in self._names if self._names[z] == s and not_less(parts[(z, t)], rank)]
                new = [z for z in self._names if not_less(ranks[z], one_less(rank))]
                by_rank[(s, t, rank)] = self.ways((s, t), old, new)
            found[(x, t)] = by_rank[(s, t, rank)]
        return found
