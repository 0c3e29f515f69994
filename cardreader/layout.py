"""A statement's cards in plain form: read again they make the same statement."""

from cardreader.cards import LAST_COLUMN
from cardreader.signs import BLANK, COMMA, QUOTE, codes, cut_at
from cardreader.statements import IF, NULL, operation_of

BLANKS_WITHIN_QUOTE = 13


class CannotBeLaid(Exception):
    """The text has a piece that's too long for its card and can't be cut."""


def cards_of(statement):
    """The rows of the statement's cards; raises CannotBeLaid."""
    if statement.kind == NULL:
        return [codes("//")]
    laid = cards_of_field(statement)
    if len(statement.end_sign) > 0:
        laid.extend(statement.rows)
        laid.append(statement.end_sign)
    return laid


def cards_of_field(statement):
    head = codes("//") + statement.label + [BLANK] + codes(operation_of(statement.kind))
    if len(statement.text) == 0:
        return [head]
    if statement.kind == IF:
        return cards_of_test(head + [BLANK], statement.text)
    return cards_of_operands(head + [BLANK], statement.text)


def cards_of_test(begin, text):
    words = cut_at(text + codes(" THEN"), BLANK)
    laid = []
    card = begin + words[0]
    for word in words[1:]:
        if len(card) + 1 + len(word) > LAST_COLUMN:
            laid.append(card)
            card = codes("// ") + word
        else:
            card = card + [BLANK] + word
    laid.append(card)
    return laid


def cards_of_operands(first_begin, text):
    quoted = quote_states(text)
    laid = []
    begin = first_begin
    place = 0
    while len(begin) + len(text) - place > LAST_COLUMN:
        end = piece_end(text, quoted, place, place + LAST_COLUMN - len(begin))
        laid.append(begin + text[place:end])
        begin = begin_going_on(quoted[end - 1])
        place = end
    laid.append(begin + text[place:])
    return laid


def quote_states(text):
    """For each sign of the text: whether a quote is open behind it."""
    states = []
    quoted = False
    for byte in text:
        if byte == QUOTE:
            quoted = not quoted
        states.append(quoted)
    return states


def piece_end(text, quoted, place, limit):
    """The end of the piece from place on, of a text that goes on behind the limit; raises CannotBeLaid."""
    for end in range(limit, place, -1):
        if text[end - 1] == COMMA and not quoted[end - 1]:
            return end
    if not quoted[limit - 1]:
        raise CannotBeLaid()
    return limit


def begin_going_on(quoted):
    return codes("//") + [BLANK] * (BLANKS_WITHIN_QUOTE if quoted else 1)
