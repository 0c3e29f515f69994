"""The reader: takes bytes, makes cards of them, and of the cards statements, rows of data and errors."""

from cardreader.cards import WIDTH, columns, full_card, head_of, is_comment, is_null, part_going_on
from cardreader.signs import LINE_END, codes, cut_at, is_plain
from cardreader.statements import (
    KINDS_WITHOUT_TEXT, LONGEST_TEXT, NO_ERROR, NULL, TOO_LONG, Statement,
    finish_statement, grow, head_error, is_field_at_end, kind_of,
)

PLAIN = 0
WITHIN = 1
IN_DATA = 2
CLOSED = 3

NO_CARD_OF_THESE = 1
NOT_GONE_ON = 4
DATA_NOT_ENDED = 9

REFUSED_LONG_CARD = -1
REFUSED_BYTE = -2
REFUSED_CARDS = -3
REFUSED_CLOSED = -4

MOST_CARDS = 500


class Reader:
    """What has been read since the reader was new."""

    def __init__(self):
        self.renew()

    def renew(self):
        self.card_count = 0
        self.mode = PLAIN
        self.kept = []
        self.statements = []
        self.errors = []
        # The statement that's not kept yet, while the mode is WITHIN.
        self.in_hand = None

    def feed(self, given):
        """Takes bytes; answers how many cards have been read, or a refusal."""
        if self.mode == CLOSED:
            return REFUSED_CLOSED
        if not all([byte == LINE_END or is_plain(byte) for byte in given]):
            return REFUSED_BYTE
        cards = cut_at(self.kept + given, LINE_END)
        if any([len(card) > WIDTH for card in cards]):
            return REFUSED_LONG_CARD
        rest = cards.pop()
        due = 1 if len(rest) > 0 else 0
        if self.card_count + len(cards) + due > MOST_CARDS:
            return REFUSED_CARDS
        self.kept = rest
        for card in cards:
            self.read_card(card)
        return self.card_count

    def finish(self):
        """Closes the reader; answers how many statements there are, or a refusal."""
        if self.mode == CLOSED:
            return REFUSED_CLOSED
        if len(self.kept) > 0:
            card = self.kept
            self.kept = []
            self.read_card(card)
        if self.mode == WITHIN:
            self.drop(NOT_GONE_ON)
        elif self.mode == IN_DATA:
            self.finish_data(self.statements[-1])
        self.mode = CLOSED
        return len(self.statements)

    def finish_data(self, statement):
        if not statement.ended_by_slashes:
            self.note_error(DATA_NOT_ENDED, statement.first)

    def read_card(self, signs):
        self.card_count += 1
        card = full_card(signs)
        if self.mode == IN_DATA:
            self.read_in_data(card, self.statements[-1])
        elif self.mode == WITHIN:
            self.read_within(card)
        else:
            self.read_plain(card)

    def read_plain(self, card):
        if is_comment(card):
            return
        begin = columns(card, 1, 2)
        if begin == codes("//"):
            self.begin_statement(card)
        elif begin != codes("/*"):
            self.note_error(NO_CARD_OF_THESE, self.card_count)

    def begin_statement(self, card):
        if is_null(card):
            self.keep(Statement(NULL, [], self.card_count))
            return
        head = head_of(card)
        kind = kind_of(head.operation)
        self.in_hand = Statement(kind, head.label, self.card_count)
        error = head_error(head.label, kind)
        if error != NO_ERROR:
            self.drop(error)
        elif kind in KINDS_WITHOUT_TEXT:
            self.keep(self.in_hand)
        else:
            self.take_part(head.part)

    def read_within(self, card):
        if is_comment(card):
            return
        part = part_going_on(card, self.in_hand.quoted)
        if part is None:
            self.drop(NOT_GONE_ON)
            self.read_plain(card)
        else:
            self.take_part(part)

    def take_part(self, part):
        statement = self.in_hand
        grow(statement, part)
        if len(statement.text) > LONGEST_TEXT:
            self.drop(TOO_LONG)
        elif is_field_at_end(statement):
            statement.last = self.card_count
            self.finish_in_hand()
        else:
            self.mode = WITHIN

    def finish_in_hand(self):
        error = finish_statement(self.in_hand)
        if error == NO_ERROR:
            self.keep(self.in_hand)
        else:
            self.drop(error)

    def read_in_data(self, card, statement):
        begin = columns(card, 1, 2)
        if statement.ended_by_slashes and begin == codes("//"):
            self.mode = PLAIN
            self.read_plain(card)
        elif begin == statement.end_sign:
            self.mode = PLAIN
        else:
            statement.rows.append(card)

    def keep(self, statement):
        self.statements.append(statement)
        self.in_hand = None
        self.mode = IN_DATA if len(statement.end_sign) > 0 else PLAIN

    def drop(self, error):
        """Notes an error of the statement in hand, which is not kept."""
        self.note_error(error, self.in_hand.first)
        self.in_hand = None
        self.mode = PLAIN

    def note_error(self, error, card_number):
        self.errors.append((error, card_number))
