"""Masks: patterns as numbers, and sets of patterns as numbers, where a search must be quick.

The patterns of some sizes are numbered ascending: the number of a pattern is what its bits are as binary digits. In a
mask the bit 2 ** k stands for the pattern with the number k.
"""

from fallenbits.patterns import bits_of
from fallenbits.writes import choices_of


def number_of(x):
    """Return the number of a pattern."""
    return int(bits_of(x), 2)


def bit_weights(sizes):
    """Return for each bit what it adds to the number of a pattern in which it stands."""
    many = sum(sizes)
    return [1 << (many - 1 - bit) for bit in range(many)]


def block_weights(sizes):
    """Return for each block what its bits add to the number of a pattern in which all of them stand."""
    weights = bit_weights(sizes)
    firsts = [sum(sizes[:block]) for block in range(len(sizes))]
    return [sum(weights[first:first + size]) for first, size in zip(firsts, sizes)]


def box_mask(one, other):
    """Return the mask of the box of two patterns."""
    mask = 1 << (one & other)
    rest = one ^ other
    while rest:
        weight = rest & -rest
        mask = mask | (mask << weight)
        rest = rest - weight
    return mask


def steps_by(falls, sizes, erases):
    """Return tuples of a number, a write of this pattern, its end and its box: of some falls, and of the erases.

    falls are pairs of a write and of the sum of the weights of its bits.
    """
    numbers = range(1 << sum(sizes))
    steps = [(k, write, k - weight, box_mask(k, k - weight))
             for k in numbers for write, weight in falls if k & weight == weight]
    if erases:
        blocks = [(("erase", block), weight) for block, weight in enumerate(block_weights(sizes))]
        steps.extend([(k, write, k | weight, box_mask(k, k | weight))
                      for k in numbers for write, weight in blocks if k & weight != weight])
    return steps


def single_steps(sizes, erases):
    """Return the steps of all patterns by single writes."""
    return steps_by([(("fall", (bit,)), weight) for bit, weight in enumerate(bit_weights(sizes))], sizes, erases)


def all_steps(sizes, erases):
    """Return the steps of all patterns by all writes."""
    weights = bit_weights(sizes)
    choices = choices_of(list(range(len(weights))))
    return steps_by([(("fall", bits), sum([weights[bit] for bit in bits])) for bits in choices], sizes, erases)
