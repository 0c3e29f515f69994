"""What the tests share: calls as lists of numbers, answers as lists of answers."""

from cardreader.batch import answers
from cardreader.reader import Reader


def clear():
    return [0]


def feed(text):
    return [1, len(text)] + [ord(sign) for sign in text]


def feed_cards(*given):
    return feed("".join(card + "\n" for card in given))


def finish():
    return [2]


def counts():
    return [3]


def statement(k):
    return [4, k]


def item(k, *path):
    return [5, k, len(path)] + list(path)


def find(k, key):
    return [6, k, len(key)] + [ord(sign) for sign in key]


def row(k, r):
    return [7, k, r]


def error(k):
    return [8, k]


def cards(k):
    return [9, k]


def operands(text):
    return [10, len(text)] + [ord(sign) for sign in text]


def condition(text):
    return [11, len(text)] + [ord(sign) for sign in text]


def next_of(k, kind):
    return [12, k, kind]


def label(k, text):
    return [13, k, len(text)] + [ord(sign) for sign in text]


def ask(*calls):
    """The answers to these calls on a new reader, each as a list of numbers."""
    numbers = answers([number for call in calls for number in call])
    told = []
    place = 0
    while place < len(numbers):
        end = place + 1 + numbers[place]
        told.append(numbers[place + 1:end])
        place = end
    if place != len(numbers) or len(told) != len(calls):
        raise AssertionError(f"answers that don't fit the calls: {numbers}")
    return told


def with_rows(answer, number_count):
    """An answer's numbers, and the texts that stand behind them as rows."""
    told = list(answer[:number_count])
    place = number_count
    while place < len(answer):
        end = place + 1 + answer[place]
        row = answer[place + 1:end]
        if len(row) != answer[place]:
            raise AssertionError(f"a row that is cut off: {answer}")
        told.append("".join(chr(byte) for byte in row))
        place = end
    return told


def statement_of(answer):
    return with_rows(answer, 5)


def item_of(answer):
    return with_rows(answer, 2)


def row_of(answer):
    return with_rows(answer, 1)


def cards_of(answer):
    """The cards that cards tells; a refusal as it is."""
    if len(answer) == 1:
        return answer
    told = with_rows(answer, 1)
    if told[0] != len(told) - 1:
        raise AssertionError(f"not as many cards as told: {told}")
    return told[1:]


def read(*given):
    """A reader that has read these cards and isn't finished."""
    reader = Reader()
    reader.feed([ord(sign) for card in given for sign in card + "\n"])
    return reader


def finished(*given):
    reader = read(*given)
    reader.finish()
    return reader


def texts_of(reader):
    return ["".join(chr(byte) for byte in kept.text) for kept in reader.statements]


def items_told(text):
    """Each item of a SET statement with this text, as item tells it."""
    given = feed_cards("//A SET " + text)
    amount = ask(given, statement(0))[1][3]
    told = ask(given, *[item(0, k) for k in range(amount)])
    return [item_of(answer) for answer in told[1:]]
