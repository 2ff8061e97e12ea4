"""Ranks, told a second time by the words of points 24 to 33: pattern by pattern, by all writes."""

import functools

from tests.samples import box_of, end_of, erases_of, falls_of, texts_of

EVER = "ever"


@functools.lru_cache(maxsize=None)
def steps_of(x, erases, single=False):
    """Return tuples of each write from x, its end and its box."""
    falls = [write for write in falls_of(x) if not single or len(write[1]) == 1]
    return [(write, end_of(x, write), box_of(x, end_of(x, write))) for write in falls + (erases_of(x) if erases else [])]


def states_of(store):
    """Return a dict from the patterns that read a state to their names."""
    return {x: store.read(x) for x in texts_of(store.sizes) if store.read(x) is not None}


def least(ranks):
    """Return the least of some ranks, "ever" if there are none."""
    numbers = [rank for rank in ranks if rank != EVER]
    return min(numbers) if numbers else EVER


def at_least(rank, other):
    return rank == EVER or (other != EVER and rank >= other)


def one_less(rank):
    return EVER if rank == EVER else rank - 1


def reaches(names, x, t, old, new, erases, most, single=False):
    """Return the least length of a row of writes from x to t whose boxes read as x in old, or t in new, or None."""
    s, front, passed, many = names[x], [x], {x}, 0
    while front and (most is None or many < most):
        many, further = many + 1, []
        for y in front:
            for _, after, near in steps_of(y, erases, single):
                if all((names.get(z) == s and z in old) or (names.get(z) == t and z in new) for z in near):
                    if names[after] == t:
                        return many
                    if after not in passed:
                        passed.add(after)
                        further.append(after)
        front = further
    return None


def greatest(names, wanted, old, new, erases, most):
    """Return the greatest part of old from which all wanted targets are reached."""
    old = set(old)
    while True:
        stuck = {x for x in old if any(reaches(names, x, t, old, new, erases, most) is None for t in wanted(x))}
        if not stuck:
            return old
        old -= stuck


def ranks_by(levels, names):
    """Return the ranks by levels of which the last two are the same."""
    return {x: EVER if x in levels[-1] else max(k for k, level in enumerate(levels) if x in level) for x in names}


def counted(store, erases, most=None):
    """Return the ranks by the words of point 26, or of point 31 if a number of writes is told."""
    names = states_of(store)
    levels = [set(names)]
    while len(levels) < 2 or levels[-1] != levels[-2]:
        levels.append(greatest(names, lambda x: store.targets(names[x]), names, levels[-1], erases, most))
    return ranks_by(levels, names)


def same(store, erases):
    """Return the ranks and the ranks for targets by the words of point 32."""
    names = states_of(store)
    pairs = [(x, t) for x in names for t in store.targets(names[x])]
    whole, parts = [set(names)], {pair: 0 for pair in pairs}
    number = 0
    while len(whole) < 2 or whole[-1] != whole[-2]:
        number += 1
        sets = {(s, t): greatest(names, lambda x, t=t: [t], [x for x in names if names[x] == s], whole[-1], erases, None)
                for s, t in store.changes()}
        for x, t in pairs:
            if x in sets[(names[x], t)]:
                parts[(x, t)] = number
        whole.append({x for x in names if all(x in sets[(names[x], t)] for t in store.targets(names[x]))})
    # From here on nothing changes.
    parts = {pair: EVER if parts[pair] == number else parts[pair] for pair in pairs}
    ranks = ranks_by(whole, names)
    return ranks, parts


def comes(x, y, erases):
    """Tell by the words of point 33 whether y can come from x."""
    return x != y and (erases or all(b <= a for a, b in zip(x, y)))


def plain(store, erases):
    """Return the ranks by the words of point 33."""
    names = states_of(store)
    levels = [set(names)]
    while len(levels) < 2 or levels[-1] != levels[-2]:
        levels.append({x for x in names if all(any(names[y] == t and comes(x, y, erases) for y in levels[-1])
                                               for t in store.targets(names[x]))})
    return ranks_by(levels, names)


def distance(store, ranks, x, t, erases):
    """Return the distance of x to t by the words of point 27."""
    names = states_of(store)
    old = {z for z in names if at_least(ranks[z], ranks[x])}
    new = {z for z in names if at_least(ranks[z], one_less(ranks[x]))}
    return reaches(names, x, t, old, new, erases, None, single=True)


def table_holds(store, rows, erases):
    """Tell whether rows of the right form are a table that holds, by the words of point 28."""
    names = states_of(store)
    told = {x: (rank, {t: (write, many) for t, write, many in moves}) for x, rank, moves in rows}
    for x, rank, moves in rows:
        for t, write, many in moves:
            steps = {step[0]: step[1:] for step in steps_of(x, erases)}
            if write not in steps:
                return False
            after, near = steps[write]
            for z in near:
                if z not in told:
                    return False
                stays = names[z] == names[x] and at_least(told[z][0], rank)
                if not stays and not (names[z] == t and at_least(told[z][0], one_less(rank))):
                    return False
            if names[after] != t and told[after][0] == rank and told[after][1][t][1] >= many:
                return False
    return True


def sets_hold(store, sets, erases):
    """Tell whether stuck sets of the right form hold, by the words of point 29."""
    names = states_of(store)
    for at, (k, s, t, members) in enumerate(sets):
        for x in members:
            for _, after, near in steps_of(x, erases, True):
                bad = [z for z in near if names.get(z) not in (s, t)
                       or (names[z] == s and any(z in other[3] and other[0] <= k for other in sets[:at]))
                       or (names[z] == t and any(z in other[3] and other[0] <= k - 1 for other in sets[:at]))]
                if not bad and after not in members:
                    return False
    return True
