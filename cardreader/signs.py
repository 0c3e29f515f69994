"""Bytes as signs: which of them are plain, make up words, make up names."""

LINE_END = 10
BLANK = 32
QUOTE = 39
OPENING = 40
CLOSING = 41
COMMA = 44
POINT = 46
EQUALS = 61

# The quote, both brackets, the comma and the sign = part an operand text, so no word holds them.
WORD_BREAKS = (39, 40, 41, 44, 61)
# @ # $ count as letters in names.
NATIONAL_LETTERS = (64, 35, 36)
LONGEST_NAME = 8


def codes(text):
    """The bytes of a text that is written in the program."""
    return [ord(sign) for sign in text]


def is_plain(byte):
    return 32 <= byte <= 126


def is_word_sign(byte):
    return 33 <= byte <= 126 and byte not in WORD_BREAKS


def is_letter(byte):
    return 65 <= byte <= 90 or byte in NATIONAL_LETTERS


def is_name_sign(byte):
    return is_letter(byte) or 48 <= byte <= 57


def is_name(signs):
    if not 1 <= len(signs) <= LONGEST_NAME:
        return False
    return is_letter(signs[0]) and all([is_name_sign(byte) for byte in signs])


def is_two_names(signs):
    parts = cut_at(signs, POINT)
    return len(parts) == 2 and is_name(parts[0]) and is_name(parts[1])


def is_key(signs):
    return is_name(signs) or is_two_names(signs)


def cut_at(signs, mark):
    """The parts before, between and behind the marks: one more than there are marks."""
    parts = []
    begin = 0
    for place, byte in enumerate(signs):
        if byte == mark:
            parts.append(signs[begin:place])
            begin = place + 1
    parts.append(signs[begin:])
    return parts


def without_end_blanks(signs):
    end = len(signs)
    while end > 0 and signs[end - 1] == BLANK:
        end -= 1
    return signs[:end]


def first_not_blank(signs, begin):
    """The least place from begin on that holds no blank; the length if there is none."""
    place = begin
    while place < len(signs) and signs[place] == BLANK:
        place += 1
    return place


def first_blank(signs, begin):
    """The least place from begin on that holds a blank; the length if there is none."""
    place = begin
    while place < len(signs) and signs[place] != BLANK:
        place += 1
    return place
