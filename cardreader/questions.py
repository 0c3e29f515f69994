"""The questions, most of them about what a reader has read. Each answers a list of numbers, a refusal as one alone."""

from cardreader.conditions import NoTest, plain_form
from cardreader.layout import CannotBeLaid, cards_of
from cardreader.operands import NoOperandText, are_in_order, read_operands
from cardreader.reader import REFUSED_BYTE
from cardreader.signs import is_plain
from cardreader.statements import LONGEST_TEXT

REFUSED_PLACE = -5
REFUSED_NOT_FOUND = -6
REFUSED_LAYING = -7
REFUSED_TEXT = -8
REFUSED_ORDER = -9
REFUSED_LENGTH = -10

NOT_REFUSED = 0


def as_row(signs):
    """A row as it stands in an answer: how many bytes it has, then these."""
    return [len(signs)] + signs


def tell_counts(reader):
    row_count = sum([len(statement.rows) for statement in reader.statements])
    return [
        reader.card_count, len(reader.statements), len(reader.errors), row_count,
        reader.mode, len(reader.kept),
    ]


def tell_statement(reader, place):
    if place >= len(reader.statements):
        return [REFUSED_PLACE]
    statement = reader.statements[place]
    numbers = [
        statement.kind, statement.first, statement.last, len(statement.operands), len(statement.rows),
    ]
    return numbers + as_row(statement.label) + as_row(statement.text)


def tell_item(reader, place, path):
    if place >= len(reader.statements):
        return [REFUSED_PLACE]
    item = item_at(reader.statements[place].operands, path)
    if item is None:
        return [REFUSED_NOT_FOUND]
    numbers = [item.sort_of_value, len(item.parts)]
    return numbers + as_row(item.key) + as_row(item.word) + as_row(item.inner)


def item_at(found, path):
    """The item at a path within these items; None if there is none."""
    item = None
    level = found
    for place in path:
        if place >= len(level):
            return None
        item = level[place]
        # What isn't a list has no parts, so no further place is found in it.
        level = item.parts
    return item


def tell_find(reader, place, key):
    if place >= len(reader.statements):
        return [REFUSED_PLACE]
    for item_place, item in enumerate(reader.statements[place].operands):
        if item.key == key:
            return [item_place]
    return [REFUSED_NOT_FOUND]


def tell_row(reader, place, row_place):
    if place >= len(reader.statements):
        return [REFUSED_PLACE]
    rows = reader.statements[place].rows
    if row_place >= len(rows):
        return [REFUSED_NOT_FOUND]
    return [0] + as_row(rows[row_place])


def tell_error(reader, place):
    if place >= len(reader.errors):
        return [REFUSED_PLACE]
    return list(reader.errors[place])


def tell_cards(reader, place):
    if place >= len(reader.statements):
        return [REFUSED_PLACE]
    try:
        laid = cards_of(reader.statements[place])
    except CannotBeLaid:
        return [REFUSED_LAYING]
    told = [len(laid)]
    for card in laid:
        told.extend(as_row(card))
    return told


def tell_operands(signs):
    refusal = refusal_of_bytes(signs)
    if refusal != NOT_REFUSED:
        return [refusal]
    try:
        found = read_operands(signs)
    except NoOperandText:
        return [REFUSED_TEXT]
    return [len(found)] if are_in_order(found) else [REFUSED_ORDER]


def tell_test(signs):
    refusal = refusal_of_bytes(signs)
    if refusal != NOT_REFUSED:
        return [refusal]
    try:
        form = plain_form(signs)
    except NoTest:
        return [REFUSED_TEXT]
    return [REFUSED_LENGTH] if len(form) > LONGEST_TEXT else [0] + as_row(form)


def refusal_of_bytes(signs):
    if not all([is_plain(byte) for byte in signs]):
        return REFUSED_BYTE
    return REFUSED_LENGTH if len(signs) > LONGEST_TEXT else NOT_REFUSED


def tell_next(reader, begin, kind):
    for place, statement in enumerate(reader.statements):
        if place >= begin and statement.kind == kind:
            return [place]
    return [REFUSED_PLACE]


def tell_label(reader, begin, label):
    for place, statement in enumerate(reader.statements):
        if place >= begin and statement.label == label:
            return [place]
    return [REFUSED_PLACE]
