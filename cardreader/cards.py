"""One card: its columns, its label, operation and operand part."""

from cardreader.signs import BLANK, codes, first_blank, first_not_blank

WIDTH = 80
# The columns behind this one aren't looked at in statements.
LAST_COLUMN = 71
LAST_COLUMN_TO_GO_ON = 16


class Head:
    """What a statement's first card says."""

    def __init__(self, label, operation, part):
        self.label = label
        self.operation = operation
        self.part = part


def full_card(signs):
    return signs + [BLANK] * (WIDTH - len(signs))


def columns(card, begin, end):
    """The columns from begin to end, both with it, counted from 1."""
    return card[begin - 1:end]


def are_blank(signs):
    return all([byte == BLANK for byte in signs])


def is_comment(card):
    return columns(card, 1, 3) == codes("//*")


def is_null(card):
    return are_blank(columns(card, 3, LAST_COLUMN))


def head_of(card):
    signs = columns(card, 3, LAST_COLUMN)
    label_end = first_blank(signs, 0)
    begin = first_not_blank(signs, label_end)
    end = first_blank(signs, begin)
    part_begin = first_not_blank(signs, end)
    return Head(signs[:label_end], signs[begin:end], signs[part_begin:])


def part_going_on(card, quoted):
    """The operand part of a card that goes on with a statement; None if it doesn't."""
    if columns(card, 1, 3) != codes("// "):
        return None
    if quoted:
        return part_within_quote(card)
    signs = columns(card, 1, LAST_COLUMN)
    # Places count from 0, columns from 1: place 3 is column 4.
    begin = first_not_blank(signs, 3)
    if begin >= LAST_COLUMN_TO_GO_ON:
        return None
    return signs[begin:]


def part_within_quote(card):
    if not are_blank(columns(card, 4, 15)):
        return None
    return columns(card, 16, LAST_COLUMN)
