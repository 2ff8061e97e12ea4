"""Texts of stores, drivers and stories: lines of words, shown and read again."""

from fallenbits.drivers import Driver
from fallenbits.errors import NoText
from fallenbits.stores import NAME_SIGNS, Store

NONE = "none"
QUIET = "-"
DIGITS = "0123456789"
MOST_DIGITS = 3
PATTERN_SIGNS = "10."
MASK_SIGNS = "10*."


def has_signs(word, signs):
    """Tell whether a word has one or more signs, all of them of these."""
    return word != "" and all([sign in signs for sign in word])


def is_number_word(word):
    """Tell whether a word is a number in one to three decimal digits without a leading zero."""
    if not has_signs(word, DIGITS) or len(word) > MOST_DIGITS:
        return False
    return word == "0" or word[0] != "0"


def are_number_words(words):
    """Tell whether words are one or more numbers."""
    return bool(words) and all([is_number_word(word) for word in words])


def is_name_word(word):
    """Tell whether a word is written as a name; it may still be too long for one, or begin with another sign."""
    return has_signs(word, NAME_SIGNS)


def can_be_row(words):
    """Tell whether the words behind "row" are a mask, a wish and a write."""
    if len(words) < 4 or not has_signs(words[0], MASK_SIGNS) or not is_name_word(words[1]):
        return False
    if words[2] == "erase":
        return len(words) == 4 and is_number_word(words[3])
    return words[2] == "fall" and are_number_words(words[3:])


def can_be_event(words):
    """Tell whether words are written as an event."""
    if words[0] == "ask":
        return len(words) == 2 and is_name_word(words[1])
    if words[0] == "cut":
        return len(words) == 2 and has_signs(words[1], PATTERN_SIGNS)
    return words == ["done"]


def can_be_store_line(words, before):
    """Tell whether words can be a line of a store behind a line with another first word, which is "" at the begin."""
    word, *rest = words
    if word == "sizes":
        return before == "" and are_number_words(rest)
    if word == "rule":
        can_follow = before in ("sizes", "rule")
        return can_follow and len(rest) == 2 and has_signs(rest[0], MASK_SIGNS) and is_name_word(rest[1])
    if word == "change":
        return before != "" and len(rest) == 2 and all([is_name_word(name) for name in rest])
    return False


def lines_of(text):
    """Return the lists of the words of the lines of a text; raise NoText(0) for what is none."""
    if not isinstance(text, str):
        raise NoText(0)
    return [line.split(" ") for line in text.split("\n")]


def need_alone(lines):
    """Raise NoText for a line behind the first one."""
    if len(lines) > 1:
        raise NoText(1)


def shown(lines):
    """Return the text of lists of words."""
    return "\n".join([" ".join(words) for words in lines])


def write_words(write):
    """Return the words of a write."""
    word, what = write
    if word == "erase":
        return [word, str(what)]
    return [word] + [str(bit) for bit in what]


def write_read(words):
    """Return the write that words tell."""
    if words[0] == "erase":
        return ("erase", int(words[1]))
    return ("fall", tuple([int(word) for word in words[1:]]))


def row_read(words):
    """Return the row of a driver that the words behind "row" tell."""
    return (words[0], "" if words[1] == QUIET else words[1], write_read(words[2:]))


def show_store(store):
    """Return the text of a store."""
    lines = [["sizes"] + [str(size) for size in store.sizes]]
    lines.extend([["rule", mask, name] for mask, name in store.rules()])
    lines.extend([["change", source, target] for source, target in store.changes()])
    return shown(lines)


def read_store(text):
    """Return the store that a text tells."""
    lines = lines_of(text)
    before = ""
    for at, words in enumerate(lines):
        if not can_be_store_line(words, before):
            raise NoText(at)
        before = words[0]
    rules = [(words[1], words[2]) for words in lines if words[0] == "rule"]
    changes = [(words[1], words[2]) for words in lines if words[0] == "change"]
    return Store([int(size) for size in lines[0][1:]], rules, changes)


def show_driver(driver):
    """Return the text of the rows of a driver."""
    lines = [["row", mask, QUIET if wish == "" else wish] + write_words(write) for mask, wish, write in driver.rows()]
    return shown(lines) if lines else NONE


def read_driver(store, text):
    """Return the driver of a store that has the rows of a text."""
    lines = lines_of(text)
    if lines[0] == [NONE]:
        need_alone(lines)
        return Driver(store, [])
    for at, words in enumerate(lines):
        if words[0] != "row" or not can_be_row(words[1:]):
            raise NoText(at)
    return Driver(store, [row_read(words[1:]) for words in lines])


def show_event(event):
    """Return the text of an event."""
    return " ".join(event)


def show_story(events):
    """Return the text of a list of events."""
    return "\n".join([show_event(event) for event in events]) if events else NONE


def read_story(text):
    """Return the list of events that a text tells."""
    lines = lines_of(text)
    if lines[0] == [NONE]:
        need_alone(lines)
        return []
    for at, words in enumerate(lines):
        if not can_be_event(words):
            raise NoText(at)
    return [tuple(words) for words in lines]
