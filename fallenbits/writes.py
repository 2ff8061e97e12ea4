"""Writes: falls of some bits and erases of a block."""

from fallenbits.boxes import box
from fallenbits.errors import NoWrite, TooMany
from fallenbits.patterns import bits_of, is_number, need_pattern, with_erased, with_fallen

MOST_STANDING = 10


def is_tuple_of(thing, many):
    """Tell whether thing is a tuple of so many items."""
    return isinstance(thing, tuple) and len(thing) == many


def is_pair(thing):
    """Tell whether thing is a tuple of two."""
    return is_tuple_of(thing, 2)


def are_bits(thing, many):
    """Tell whether thing is an ascending tuple of at least one number of a bit."""
    if not isinstance(thing, tuple) or not thing:
        return False
    if not all([is_number(bit, many) for bit in thing]):
        return False
    return all([a < b for a, b in zip(thing, thing[1:])])


def has_fallen(x, block):
    """Tell whether some bit of a block has fallen."""
    return "0" in x.split(".")[block]


def fits(x, thing):
    """Tell whether thing is a write from the pattern x."""
    if not is_pair(thing):
        return False
    word, what = thing
    if word == "fall":
        bits = bits_of(x)
        return are_bits(what, len(bits)) and all([bits[bit] == "1" for bit in what])
    if word == "erase":
        return is_number(what, len(x.split("."))) and has_fallen(x, what)
    return False


def is_write(x, thing):
    """Tell whether a thing, whatever it is, is a write from the pattern x."""
    need_pattern(x)
    return fits(x, thing)


def may_write(x, thing, erases):
    """Tell whether thing is a write from the pattern x, where blocks can be erased or not."""
    return is_write(x, thing) and (erases or thing[0] == "fall")


def end(x, write):
    """Return the pattern after a write."""
    need_pattern(x)
    if not fits(x, write):
        raise NoWrite("this is no write from the pattern")
    word, what = write
    return with_fallen(x, what) if word == "fall" else with_erased(x, what)


def write_box(x, write):
    """Return all patterns that a power failure in a write can leave, ascending."""
    return box(x, end(x, write))


def standing_bits(x):
    """Return the numbers of the bits that stand, ascending."""
    return [number for number, bit in enumerate(bits_of(x)) if bit == "1"]


def erase_writes(x):
    """Return the erases from x, by block."""
    many = len(x.split("."))
    return [("erase", block) for block in range(many) if has_fallen(x, block)]


def single_writes(x, erases=True):
    """Return the falls of one bit and then the erases from x."""
    need_pattern(x)
    falls = [("fall", (bit,)) for bit in standing_bits(x)]
    return falls + erase_writes(x) if erases else falls


def choices_of(bits):
    """Return every choice of at least one of some ascending bits, ascending as tuples."""
    found = []
    for bit in bits[::-1]:
        # A choice that begins with this bit comes ahead of all that begin with a later one.
        found = [(bit,)] + [(bit, *rest) for rest in found] + found
    return found


def all_writes(x, erases=True):
    """Yield the falls of every choice of bits and then the erases from x."""
    need_pattern(x)
    standing = standing_bits(x)
    if len(standing) > MOST_STANDING:
        raise TooMany("more than ten bits stand")
    for bits in choices_of(standing):
        yield ("fall", bits)
    if erases:
        for write in erase_writes(x):
            yield write
