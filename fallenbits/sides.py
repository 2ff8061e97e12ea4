"""Stores side by side, and together: several stores as one."""

from fallenbits.errors import NoStore
from fallenbits.stores import MOST_BITS, MOST_BLOCKS, MOST_CHANGES, Store, is_name


def all_rows(lists):
    """Return all tuples of one item of each list, those of the last list running fastest."""
    rows = [()]
    for xs in lists:
        rows = [(*row, x) for row in rows for x in xs]
    return rows


def joined(lists):
    """Return the names joined of one name of each list."""
    return ["-".join(row) for row in all_rows(lists)]


def check_parts(stores):
    """Raise NoStore if some stores are too large together, or their states cannot be joined."""
    sizes = [size for store in stores for size in store.sizes]
    if len(sizes) > MOST_BLOCKS or sum(sizes) > MOST_BITS:
        raise NoStore("sizes", None)
    names = joined([store.states for store in stores])
    if not all([is_name(name) for name in names]) or len(set(names)) != len(names):
        raise NoStore("rules", None)


def joined_rules(stores):
    """Return a rule for each pattern of which each part reads a name."""
    parts = [[(x, store.read(x)) for x in store.patterns() if store.read(x) is not None] for store in stores]
    return [(".".join([x for x, _ in row]), "-".join([name for _, name in row])) for row in all_rows(parts)]


def store_of(stores, changes):
    """Return the store of the blocks of several stores, with these changes."""
    if len(changes) > MOST_CHANGES:
        raise NoStore("changes", None)
    sizes = [size for store in stores for size in store.sizes]
    return Store(sizes, joined_rules(stores), changes)


def changes_of_part(stores, at):
    """Return the changes of one of several stores, the others staying in any of their states."""
    found = []
    for source, target in stores[at].changes():
        lists = [store.states for store in stores]
        lists[at] = [source]
        sources = joined(lists)
        lists[at] = [target]
        found.extend(list(zip(sources, joined(lists))))
    return found


def side_by_side(*stores):
    """Return the store of two or three stores, each of which changes by itself."""
    check_parts(stores)
    return store_of(stores, [change for at in range(len(stores)) for change in changes_of_part(stores, at)])


def together(first, second):
    """Return the store of two stores that change at once only."""
    stores = (first, second)
    check_parts(stores)
    changes = [(f"{source}-{other}", f"{target}-{another}")
               for source, target in first.changes() for other, another in second.changes()]
    return store_of(stores, changes)
