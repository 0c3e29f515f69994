"""Operand texts: items, their keys and values."""

from cardreader.signs import CLOSING, COMMA, EQUALS, OPENING, QUOTE, is_key, is_word_sign
from cardreader.walk import Walk

EMPTY = 0
WORD = 1
QUOTED = 2
WORD_WITH_INNER = 3
LIST = 4

DEEPEST_LIST = 6
LONGEST_INNER = 20
# No byte is below 0, so this can't be taken for one.
END = -1


class NoOperandText(Exception):
    """What is read doesn't follow the rules of an operand text to its end."""


class Item:
    """A value, and its key, which is empty where there is none."""

    def __init__(self, word):
        self.key = []
        self.sort_of_value = EMPTY
        self.word = word
        self.inner = []
        self.parts = []


def read_operands(signs):
    """The items of an operand text; raises NoOperandText."""
    if len(signs) == 0:
        return []
    walk = Walk(signs, END)
    found = read_items(walk, 0)
    if walk.peek() != END:
        raise NoOperandText()
    return found


def read_items(walk, depth):
    found = [read_item(walk, depth)]
    while walk.peek() == COMMA:
        walk.take()
        found.append(read_item(walk, depth))
    return found


def read_item(walk, depth):
    word = take_word(walk)
    if walk.peek() != EQUALS:
        return read_value(walk, word, depth)
    # A word that's no key can't have = behind it either, so there is no other way to read this.
    if not is_key(word):
        raise NoOperandText()
    walk.take()
    item = read_value(walk, take_word(walk), depth)
    item.key = word
    return item


def take_word(walk):
    word = []
    while is_word_sign(walk.peek()):
        word.append(walk.take())
    return word


def read_value(walk, word, depth):
    """The item whose value begins with this word, which has been taken and may be empty."""
    item = Item(word)
    ahead = walk.peek()
    if len(word) > 0 and ahead == OPENING:
        item.sort_of_value = WORD_WITH_INNER
        item.inner = read_inner(walk)
    elif len(word) > 0:
        item.sort_of_value = WORD
    elif ahead == QUOTE:
        item.sort_of_value = QUOTED
        item.word = read_quoted(walk)
    elif ahead == OPENING:
        item.sort_of_value = LIST
        item.parts = read_list(walk, depth + 1)
    return item


def read_inner(walk):
    walk.take()
    inner = take_word(walk)
    if not 1 <= len(inner) <= LONGEST_INNER:
        raise NoOperandText()
    take_closing(walk)
    return inner


def read_list(walk, depth):
    if depth > DEEPEST_LIST:
        raise NoOperandText()
    walk.take()
    found = read_items(walk, depth)
    take_closing(walk)
    return found


def take_closing(walk):
    if walk.take() != CLOSING:
        raise NoOperandText()


def read_quoted(walk):
    """What stands between the quotes, each doubled quote once."""
    walk.take()
    found = []
    while walk.peek() != END:
        byte = walk.take()
        if byte == QUOTE:
            if walk.peek() != QUOTE:
                return found
            walk.take()
        found.append(byte)
    raise NoOperandText()


def are_in_order(found):
    seen = {}
    for item in found:
        key = tuple(item.key)
        if len(key) == 0 and len(seen) > 0:
            return False
        if key in seen:
            return False
        if len(key) > 0:
            seen[key] = True
    return True
