"""The tests of IF statements, and their plain form."""

from cardreader.signs import codes, is_name
from cardreader.walk import Walk

WORD_SIGNS = "ABCDEFGHIJKLMNOPQRSTUVWXYZ@#$0123456789."
OTHER_SIGNS = " ><=!&|()"
# The longer ones stand first: at each place the longest that fits is taken.
TOKEN_SIGNS = (">=", "<=", "!=", ">", "<", "=", "&", "|", "!", "(", ")")
COMPARES = {
    "GT": "GT", ">": "GT", "LT": "LT", "<": "LT", "GE": "GE", ">=": "GE",
    "LE": "LE", "<=": "LE", "EQ": "EQ", "=": "EQ", "NE": "NE", "!=": "NE",
}
CODE_COMPARES = ("EQ", "NE")
HEX_DIGITS = "0123456789ABCDEF"
DEEPEST = 12
HIGHEST_NUMBER = 4095
# No token is empty, so this can't be taken for one.
END = ""


class NoTest(Exception):
    """What is read isn't a test."""


class Form:
    """A plain form, and the word that joins its outermost two parts (empty where none does)."""

    def __init__(self, text, joint):
        self.text = text
        self.joint = joint


def plain_form(signs):
    """The bytes of the plain form of the test in signs; raises NoTest."""
    walk = Walk(tokens_of(spelled(signs)), END)
    form = read_test(walk, 0)
    if walk.peek() != END:
        raise NoTest()
    return codes(form.text)


def spelled(signs):
    """The signs as a Python text, in which tokens are easier to compare."""
    spelling = {}
    for sign in WORD_SIGNS + OTHER_SIGNS:
        spelling[ord(sign)] = sign
    if not all([byte in spelling for byte in signs]):
        raise NoTest()
    return "".join([spelling[byte] for byte in signs])


def tokens_of(text):
    found = []
    place = 0
    while place < len(text):
        if text[place] == " ":
            place += 1
        else:
            token = token_at(text, place)
            found.append(token)
            place += len(token)
    return found


def token_at(text, place):
    for sign in TOKEN_SIGNS:
        if text.startswith(sign, place):
            return sign
    end = place
    while end < len(text) and text[end] in WORD_SIGNS:
        end += 1
    return text[place:end]


def read_test(walk, depth):
    form = read_and(walk, depth)
    while walk.peek() in ("OR", "|"):
        walk.take()
        form = joined_by_or(form, read_and(walk, depth))
    return form


def read_and(walk, depth):
    form = read_not(walk, depth)
    while walk.peek() in ("AND", "&"):
        walk.take()
        form = joined_by_and(form, read_not(walk, depth))
    return form


def read_not(walk, depth):
    if depth > DEEPEST:
        raise NoTest()
    token = walk.take()
    if token in ("NOT", "!"):
        return denied(read_not(walk, depth + 1))
    if token != "(":
        return Form(read_question(walk, token), "")
    form = read_test(walk, depth + 1)
    if walk.take() != ")":
        raise NoTest()
    return form


def joined_by_or(left, right):
    return Form(left.text + " OR " + bracketed(right, ("OR",)), "OR")


def joined_by_and(left, right):
    return Form(bracketed(left, ("OR",)) + " AND " + bracketed(right, ("OR", "AND")), "AND")


def denied(form):
    return Form("NOT " + bracketed(form, ("OR", "AND")), "")


def bracketed(form, joints):
    """The form's text, in brackets if it is joined by one of the joints."""
    if form.joint in joints:
        return "(" + form.text + ")"
    return form.text


def read_question(walk, word):
    parts = word.split(".")
    who = parts[:-1]
    asked = parts[-1]
    if len(who) > 2 or not all([is_name(codes(part)) for part in who]):
        raise NoTest()
    if asked == "RC":
        compare = compare_of(walk.take())
        return f"{word} {compare} " + number_of(walk.take())
    if asked == "ABENDCC":
        compare = compare_of(walk.take())
        if compare not in CODE_COMPARES:
            raise NoTest()
        return f"{word} {compare} " + code_of(walk.take())
    if asked == "ABEND" or asked == "RUN" and len(who) > 0:
        return word
    raise NoTest()


def compare_of(token):
    if token not in COMPARES:
        raise NoTest()
    return COMPARES[token]


def number_of(token):
    """The number without zeros before it."""
    if not token.isdigit() or len(token) > 4 or int(token) > HIGHEST_NUMBER:
        raise NoTest()
    return str(int(token))


def code_of(token):
    if is_user_code(token) or is_system_code(token):
        return token
    raise NoTest()


def is_user_code(token):
    digits = token[1:]
    if not token.startswith("U") or len(digits) != 4 or not digits.isdigit():
        return False
    return int(digits) <= HIGHEST_NUMBER


def is_system_code(token):
    digits = token[1:]
    if not token.startswith("S") or len(digits) != 3:
        return False
    return all([digit in HEX_DIGITS for digit in digits])
