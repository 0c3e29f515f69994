"""Statements: their kinds, how their text grows from card to card, how they're finished."""

from cardreader.conditions import NoTest, plain_form
from cardreader.operands import QUOTED, WORD, NoOperandText, are_in_order, read_operands
from cardreader.signs import BLANK, COMMA, QUOTE, codes, is_key, is_name, is_two_names, without_end_blanks

KINDS = {"JOB": 1, "EXEC": 2, "DD": 3, "PROC": 4, "PEND": 5, "SET": 6, "IF": 7, "ELSE": 8, "ENDIF": 9}
UNKNOWN = 0
JOB = 1
DD = 3
IF = 7
NULL = 10
# PEND, ELSE and ENDIF: their operand part says nothing.
KINDS_WITHOUT_TEXT = (5, 8, 9)

NO_ERROR = 0
WRONG_LABEL = 2
WRONG_OPERATION = 3
TOO_LONG = 5
WRONG_TEXT = 6
WRONG_ORDER = 7
WRONG_END_SIGN = 8

LONGEST_TEXT = 2000
LONGEST_TEST = 1995


class Statement:
    """A statement, in hand or kept. Just one that awaits data has an end sign that isn't empty."""

    def __init__(self, kind, label, first):
        self.kind = kind
        self.label = label
        self.first = first
        self.last = first
        self.text = []
        self.quoted = False
        self.operands = []
        self.rows = []
        self.end_sign = []
        self.ended_by_slashes = False


def kind_of(operation):
    for word, kind in KINDS.items():
        if operation == codes(word):
            return kind
    return UNKNOWN


def operation_of(kind):
    """The operation of a kind; each kind but that of the null statement has one."""
    return [word for word, number in KINDS.items() if number == kind][0]


def head_error(label, kind):
    if len(label) > 0 and not is_key(label):
        return WRONG_LABEL
    if kind == UNKNOWN:
        return WRONG_OPERATION
    if kind == JOB and len(label) == 0 or kind != DD and is_two_names(label):
        return WRONG_LABEL
    return NO_ERROR


def grow(statement, part):
    """Puts a piece of an operand part behind the statement's text."""
    if statement.kind == IF:
        grow_test(statement, part)
    else:
        grow_operands(statement, part)


def grow_test(statement, part):
    if len(statement.text) > 0:
        statement.text.append(BLANK)
    statement.text.extend(without_end_blanks(part))


def grow_operands(statement, part):
    for byte in part:
        if byte == BLANK and not statement.quoted:
            return
        if byte == QUOTE:
            statement.quoted = not statement.quoted
        statement.text.append(byte)


def is_field_at_end(statement):
    text = statement.text
    if statement.kind == IF:
        return text == codes("THEN") or text[-5:] == codes(" THEN")
    return not statement.quoted and text[-1:] != [COMMA]


def finish_statement(statement):
    """Makes of the text what the statement keeps; answers the error's number, or NO_ERROR."""
    if statement.kind == IF:
        return finish_test(statement)
    return finish_operands(statement)


def finish_test(statement):
    try:
        form = plain_form(statement.text[:-4])
    except NoTest:
        return WRONG_TEXT
    statement.text = form
    return TOO_LONG if len(form) > LONGEST_TEST else NO_ERROR


def finish_operands(statement):
    try:
        found = read_operands(statement.text)
    except NoOperandText:
        return WRONG_TEXT
    if not are_in_order(found):
        return WRONG_ORDER
    statement.operands = found
    return await_data(statement) if statement.kind == DD else NO_ERROR


def await_data(statement):
    """Sets how the data of a DD will end, if it awaits any; answers the error's number, or NO_ERROR."""
    found = statement.operands
    awaited = len(found) > 0 and (is_lone_word(found[0], "*") or is_lone_word(found[0], "DATA"))
    marks = [item for item in found if item.key == codes("DLM")]
    if len(marks) == 0:
        if awaited:
            statement.end_sign = codes("/*")
            statement.ended_by_slashes = is_lone_word(found[0], "*")
        return NO_ERROR
    mark = marks[0]
    if not awaited or mark.sort_of_value not in (WORD, QUOTED) or len(mark.word) != 2:
        return WRONG_END_SIGN
    statement.end_sign = mark.word
    return NO_ERROR


def is_lone_word(item, word):
    return len(item.key) == 0 and item.sort_of_value == WORD and item.word == codes(word)
