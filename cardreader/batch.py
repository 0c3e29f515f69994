"""Calls on one reader, told as one list of numbers, and their answers as another."""

from cardreader.questions import (
    tell_cards, tell_counts, tell_error, tell_find, tell_item, tell_label, tell_next, tell_operands,
    tell_row, tell_statement, tell_test,
)
from cardreader.reader import Reader
from cardreader.walk import Walk

CLEAR = 0
FEED = 1
FINISH = 2
COUNTS = 3
STATEMENT = 4
ITEM = 5
FIND = 6
ROW = 7
ERROR = 8
CARDS = 9
OPERANDS = 10
TEST = 11
NEXT = 12
LABEL = 13

# No number of a call is below 0, so this can't be taken for one.
END = -1


class UnknownCall(ValueError):
    """The list holds a number of a call that there isn't."""


def answers(calls):
    """For each call, in order: how many numbers are answered, then these."""
    reader = Reader()
    walk = Walk(calls, END)
    told = []
    while walk.peek() != END:
        answer = answer_call(reader, walk)
        told.append(len(answer))
        told.extend(answer)
    return told


def answer_call(reader, walk):
    call = walk.take()
    if call == CLEAR:
        reader.renew()
        return [0]
    if call == FEED:
        return [reader.feed(take_row(walk))]
    if call == FINISH:
        return [reader.finish()]
    if call == COUNTS:
        return tell_counts(reader)
    if call == OPERANDS:
        return tell_operands(take_row(walk))
    if call == TEST:
        return tell_test(take_row(walk))
    return answer_of_place(reader, walk, call)


def answer_of_place(reader, walk, call):
    """Answers one of the calls that begin with a place."""
    place = walk.take()
    if call == STATEMENT:
        return tell_statement(reader, place)
    if call == ITEM:
        return tell_item(reader, place, take_row(walk))
    if call == FIND:
        return tell_find(reader, place, take_row(walk))
    if call == ROW:
        return tell_row(reader, place, walk.take())
    if call == ERROR:
        return tell_error(reader, place)
    if call == CARDS:
        return tell_cards(reader, place)
    if call == NEXT:
        return tell_next(reader, place, walk.take())
    if call == LABEL:
        return tell_label(reader, place, take_row(walk))
    raise UnknownCall(call)


def take_row(walk):
    return walk.take_many(walk.take())
