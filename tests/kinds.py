"""Fields by plans, and what they are, told a second time by the words of points 43 and 44."""

import functools
import itertools

from fallenbits.fields import Choice, Count, Joint, Mark, Once, Toggle

ONE, TWO, THREE = ("toggle", 1), ("toggle", 2), ("choice", ("b", "a", "c"), 1)
PLANS = [
    ("mark",), ONE, ("toggle", 3), ("toggle", 6), ("choice", ("a", "b"), 2), ("choice", ("c", "b", "a"), 1),
    ("choice", ("a", "b", "c"), 3), ("choice", ("x1", "x-", "z", "y"), 2), ("choice", ("d", "c", "b", "a", "e"), 1),
    ("joint", ONE, TWO, 1), ("joint", ONE, ONE, 2), ("joint", THREE, ONE, 1), ("joint", TWO, THREE, 2),
    ("joint", ("joint", ONE, TWO, 2), ONE, 1), ("joint", ONE, ("joint", ONE, ONE, 1), 1),
    ("count", 1), ("count", 3), ("count", 6), ("count", 9),
    ("once", ("a",)), ("once", ("x", "y", "b", "z")), ("once", ("f", "e", "d", "c", "b", "a"))]


def made(plan):
    """Return the field of a plan."""
    word, *parts = plan
    if word == "joint":
        return Joint(made(parts[0]), made(parts[1]), parts[2])
    return {"mark": Mark, "choice": Choice, "toggle": Toggle, "count": Count, "once": Once}[word](*parts)


def text_of(plan):
    word, *parts = plan
    if word == "joint":
        return f"joint {parts[2]} [{text_of(parts[0])}] [{text_of(parts[1])}]"
    if word == "choice":
        return " ".join(["choice", str(parts[1]), *parts[0]])
    return " ".join([word, *map(str, parts[0] if word == "once" else parts)])


def names_of(plan):
    """Return the states of a plan in the order told."""
    word, *parts = plan
    if word == "joint":
        return tuple("-".join(pair) for pair in itertools.product(names_of(parts[0]), names_of(parts[1])))
    return {"mark": lambda: ("clear", "set"), "choice": lambda: parts[0], "toggle": lambda: ("off", "on"),
            "count": lambda: tuple("n" + str(k) for k in range(parts[0] + 1)), "once": lambda: ("open", *parts[0])}[word]()


def times_of(plan):
    return plan[-1]


def label_pairs(plan, label):
    """Return what a label adds to each plain choice in a plan, with the number of names of that choice."""
    if plan[0] == "joint":
        many = len(names_of(plan[2]))
        return label_pairs(plan[1], label // many) + label_pairs(plan[2], label % many)
    return [(label, len(names_of(plan)))]


def labels_of(plan):
    """Return the labels of the bits of a choice, in their order."""
    return [label for label in range(1, len(names_of(plan))) for _ in range(times_of(plan))]


def bits_of(plan):
    """Return how many bits a field has."""
    if plan[0] == "mark":
        return 1
    if plan[0] == "count":
        return plan[1]
    return len(plan[1]) if plan[0] == "once" else len(labels_of(plan))


def summed(plan, content):
    """Return for each plain choice in a plan the sum of what the fallen bits add to it."""
    labels = [label for label, sign in zip(labels_of(plan), content) if sign == "0"]
    sizes = [many for _, many in label_pairs(plan, 0)]
    sums = [sum(label_pairs(plan, label)[at][0] for label in labels) for at in range(len(sizes))]
    return [number % many for number, many in zip(sums, sizes)]


@functools.lru_cache(maxsize=None)
def reading(plan, content):
    """Return what a content reads, by the words of point 44."""
    fallen = [bit for bit, sign in enumerate(content) if sign == "0"]
    if plan[0] == "mark":
        return "set" if fallen else "clear"
    if plan[0] == "count":
        return "n" + str(len(fallen))
    if plan[0] == "once":
        return "open" if not fallen else plan[1][fallen[0]] if len(fallen) == 1 else None
    sums = summed(plan, content)
    return [name for number, name in enumerate(names_of(plan))
            if [part for part, _ in label_pairs(plan, number)] == sums][0]


def change_list(plan):
    """Return the changes of a field, ascending, by the words of point 44."""
    if plan[0] == "mark":
        return [("clear", "set")]
    if plan[0] == "count":
        return sorted(("n" + str(k), "n" + str(k + 1)) for k in range(plan[1]))
    if plan[0] == "once":
        return sorted(("open", name) for name in plan[1])
    return sorted(itertools.permutations(names_of(plan), 2))


def contents(plan):
    """Return all contents of a field, ascending."""
    return ["".join(signs) for signs in itertools.product("01", repeat=bits_of(plan))]


def without(content, bit):
    """Return a content in which one more bit has fallen."""
    return content[:bit] + "0" + content[bit + 1:]


def ways(plan, content, target):
    """Return the bits whose fall alone leads from a content to one that reads the target, ascending."""
    return [bit for bit, sign in enumerate(content) if sign == "1" and reading(plan, without(content, bit)) == target]


@functools.lru_cache(maxsize=None)
def kindly(plan, content):
    """Return how many changes can be asked at most, without failures, by trying them all; None for no state."""
    name = reading(plan, content)
    if name is None:
        return None
    targets = [target for source, target in change_list(plan) if source == name]
    return max([0] + [1 + kindly(plan, without(content, bit)) for t in targets for bit in ways(plan, content, t)])


@functools.lru_cache(maxsize=None)
def surely(plan, content):
    """Return how many changes are sure if each is done by the fall of one bit, "ever" if none can be asked for ever.

    Each fall of one bit changes the state, so a writer has no other way, and no failure leaves anything between.
    """
    name = reading(plan, content)
    if name is None:
        return None
    found = ["ever"]
    for source, target in change_list(plan):
        if source == name:
            behind = [surely(plan, without(content, bit)) for bit in ways(plan, content, target)]
            numbers = [-1 if not behind else max(float("inf") if rank == "ever" else rank for rank in behind)]
            found += [rank + 1 for rank in numbers if rank != float("inf")]
    ranks = [rank for rank in found if rank != "ever"]
    return min(ranks) if ranks else "ever"
