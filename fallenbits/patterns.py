"""Patterns: texts of bits that stand ("1") or have fallen ("0"), in one to three blocks."""

from fallenbits.errors import NoBit, NoPattern, Unlike


def is_whole(thing):
    """Tell whether thing is an int that is not a bool."""
    return isinstance(thing, int) and not isinstance(thing, bool)


def is_number(thing, many):
    """Tell whether thing is one of the numbers from 0 to many - 1."""
    return is_whole(thing) and 0 <= thing < many


def has_pattern_form(text):
    """Tell whether a text is a pattern."""
    parts = text.split(".")
    bits = "".join(parts)
    if len(parts) > Pattern.BLOCKS or "" in parts or len(bits) > Pattern.BITS:
        return False
    return bits.strip("01") == ""


def pattern_fault(thing):
    """Return how many leading signs begin some pattern, or None if thing is a pattern."""
    if not isinstance(thing, str):
        return 0
    return None if has_pattern_form(thing) else first_wrong_sign(thing)


def first_wrong_sign(thing):
    """Return how many leading signs of a text that is no pattern begin some pattern."""
    bits = 0
    blocks = 1
    size = 0
    for at, sign in enumerate(thing):
        if sign not in ("0", "1", ".") or bits == Pattern.BITS:
            # Behind the last bit not even a dot can stand: it would need one bit more.
            return at
        if sign == ".":
            if size == 0 or blocks == Pattern.BLOCKS:
                return at
            blocks += 1
            size = 0
        else:
            bits += 1
            size += 1
    # All signs can stand there, so one more bit is needed.
    return len(thing)


def need_pattern(thing):
    """Raise NoPattern if thing is not a pattern."""
    at = pattern_fault(thing)
    if at is not None:
        raise NoPattern(at)


def sizes_of(text):
    """Return the tuple of the numbers of bits of the blocks of a pattern."""
    return tuple([len(part) for part in text.split(".")])


def need_sizes(thing, sizes):
    """Raise NoPattern if thing is not a pattern, then Unlike if it has other sizes."""
    need_pattern(thing)
    if sizes_of(thing) != sizes:
        raise Unlike("the sizes differ")


def need_bits(thing, many):
    """Raise NoBit if thing is not a list of numbers of bits."""
    if not isinstance(thing, list) or not all([is_number(bit, many) for bit in thing]):
        raise NoBit("there is no such bit")


def need_content(thing, many):
    """Raise NoPattern if thing is not a text of so many signs "1" and "0"."""
    if not isinstance(thing, str):
        raise NoPattern(0)
    for at, sign in enumerate(thing):
        if at == many or sign not in ("0", "1"):
            raise NoPattern(at)
    if len(thing) < many:
        raise NoPattern(len(thing))


def bits_of(text):
    """Return the bits of a pattern, without the dots."""
    return text.replace(".", "")


def unlike_bits(one, other):
    """Return the numbers of the bits at which two patterns of equal sizes differ, ascending."""
    return [bit for bit, (a, b) in enumerate(zip(bits_of(one), bits_of(other))) if a != b]


def places_of(text):
    """Return for each bit of a pattern (or mask) where its sign stands in the text."""
    return [place for place, sign in enumerate(text) if sign != "."]


def with_fallen(text, bits):
    """Return the pattern in which these bits have fallen, too."""
    places = places_of(text)
    signs = list(text)
    for bit in bits:
        signs[places[bit]] = "0"
    return "".join(signs)


def with_erased(text, block):
    """Return the pattern in which all bits of a block stand."""
    parts = text.split(".")
    parts[block] = "1" * len(parts[block])
    return ".".join(parts)


def lies_below(one, other):
    """Tell whether each bit that stands in one stands in other, of two patterns of equal sizes."""
    return all([a <= b for a, b in zip(one, other)])


def unlike_sign(a, b):
    """Return the sign of one ^ other where one has the sign a and other the sign b."""
    if a != b:
        return "1"
    return "." if a == "." else "0"


def can_be_sizes(sizes):
    """Tell whether a pattern can have these sizes."""
    if not 1 <= len(sizes) <= Pattern.BLOCKS:
        return False
    if not all([is_whole(size) and size >= 1 for size in sizes]):
        return False
    return sum(sizes) <= Pattern.BITS


class Pattern:
    """A pattern that never changes: what alters it gives a new one."""

    BITS = 120
    BLOCKS = 3

    def __init__(self, text):
        need_pattern(text)
        self._text = text
        self._bits = bits_of(text)
        self._sizes = sizes_of(text)

    @staticmethod
    def is_pattern(thing):
        """Tell whether a thing, whatever it is, is a pattern."""
        return pattern_fault(thing) is None

    @classmethod
    def full(cls, *sizes):
        """Return the pattern of these sizes in which all bits stand."""
        if not can_be_sizes(sizes):
            raise NoPattern(0)
        return cls(".".join(["1" * size for size in sizes]))

    @property
    def sizes(self):
        return self._sizes

    @property
    def standing(self):
        return self._bits.count("1")

    def fallen(self, bits):
        """Return the pattern in which the bits of a list have fallen, too."""
        need_bits(bits, len(self._bits))
        return Pattern(with_fallen(self._text, bits))

    def erased(self, block):
        """Return the pattern in which all bits of a block stand."""
        if not is_number(block, len(self._sizes)):
            raise NoBit("there is no such block")
        return Pattern(with_erased(self._text, block))

    def __str__(self):
        return str(self._text)

    def __len__(self):
        return len(self._bits)

    def __bool__(self):
        return "1" in self._bits

    def __getitem__(self, at):
        if not is_number(at, len(self._bits)):
            raise NoBit("there is no such bit")
        return int(self._bits[at])

    def __iter__(self):
        raise TypeError("a pattern is not iterated over")

    def __contains__(self, x):
        return is_number(x, len(self._bits)) and self._bits[x] == "1"

    def __eq__(self, other):
        return isinstance(other, Pattern) and self._text == other._text

    def __le__(self, other):
        if not isinstance(other, Pattern):
            return NotImplemented
        need_sizes(other._text, self._sizes)
        return lies_below(self._text, other._text)

    def __lt__(self, other):
        if not isinstance(other, Pattern):
            return NotImplemented
        need_sizes(other._text, self._sizes)
        return self._text != other._text and lies_below(self._text, other._text)

    def __ge__(self, other):
        if not isinstance(other, Pattern):
            return NotImplemented
        need_sizes(other._text, self._sizes)
        return lies_below(other._text, self._text)

    def __gt__(self, other):
        if not isinstance(other, Pattern):
            return NotImplemented
        need_sizes(other._text, self._sizes)
        return self._text != other._text and lies_below(other._text, self._text)

    def __and__(self, other):
        if not isinstance(other, Pattern):
            return NotImplemented
        need_sizes(other._text, self._sizes)
        return Pattern("".join([a if a == b else "0" for a, b in zip(self._text, other._text)]))

    def __or__(self, other):
        if not isinstance(other, Pattern):
            return NotImplemented
        need_sizes(other._text, self._sizes)
        return Pattern("".join([a if a == b else "1" for a, b in zip(self._text, other._text)]))

    def __xor__(self, other):
        if not isinstance(other, Pattern):
            return NotImplemented
        need_sizes(other._text, self._sizes)
        return Pattern("".join([unlike_sign(a, b) for a, b in zip(self._text, other._text)]))
