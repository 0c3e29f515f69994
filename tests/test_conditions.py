"""IF statements: the plain form of their tests, and what is no test."""

import unittest

from calls import ask, counts, feed_cards, finished, read, statement, statement_of, texts_of

from cardreader.conditions import NoTest, plain_form


def cards_of_if(text):
    """An IF statement of the text's words; each card has one word at least."""
    cards = ["// IF"]
    for word in (text + " THEN").split(" "):
        if word == "":
            continue
        if len(cards[-1]) + 1 + len(word) > 71 or len(cards) == 1:
            cards.append("// " + word)
        else:
            cards[-1] += " " + word
    return cards


def form_of(text):
    """The plain form, or None if it's no test."""
    reader = finished(*cards_of_if(text))
    if reader.errors == []:
        return texts_of(reader)[0]
    if reader.errors != [(6, 1)]:
        raise AssertionError(f"another error: {text} {reader.errors}")
    return None


class Forms(unittest.TestCase):
    def all_have_the_form(self, form, *texts):
        for text in texts:
            self.assertEqual(form_of(text), form, text)

    def all_are_none(self, *texts):
        for text in texts:
            self.assertIsNone(form_of(text), text)


class Questions(Forms):
    def test_compares(self):
        for word, sign in {"GT": ">", "LT": "<", "GE": ">=", "LE": "<=", "EQ": "=", "NE": "!="}.items():
            self.all_have_the_form(f"RC {word} 4", f"RC {word} 4", f"RC{sign}4", f"RC {sign} 4", f"  RC  {sign}  4  ")
            self.all_have_the_form(f"A.B.RC {word} 4", f"A.B.RC {word} 4", f"A.B.RC{sign}4")

    def test_no_compares(self):
        self.all_are_none("RC", "RC 4", "RC GTE 4", "RC == 4", "RC => 4", "RC =< 4", "RC <> 4", "RC ! 4", "RC ! = 4", "RC > = 4",
                          "RCGT4", "RC GT4", "RCGT 4", "RC gt 4", "RC & 4", "RC GT GT 4", "4 GT RC")

    def test_numbers(self):
        for written, number in {"0": "0", "00": "0", "0000": "0", "04": "4", "0040": "40", "4095": "4095", "400": "400"}.items():
            self.all_have_the_form(f"RC EQ {number}", f"RC={written}")

    def test_no_numbers(self):
        self.all_are_none("RC=4096", "RC=9999", "RC=00000", "RC=00004", "RC=A", "RC=4A", "RC=", "RC=4.", "RC=-4", "RC=U0004")

    def test_who(self):
        for who in ("", "A.", "A.B.", "ABCDEFGH.", "ABCDEFGH.ABCDEFGH.", "@.", "$1.#2.", "RC.", "RC.RC.", "OR.", "NOT.AND.", "ABEND.RUN."):
            for asked, behind in {"RC": " GT 1", "ABEND": "", "ABENDCC": " EQ U0001"}.items():
                self.all_have_the_form(who + asked + behind, who + asked + behind)
            if who != "":
                self.all_have_the_form(who + "RUN", who + "RUN")

    def test_nobody(self):
        for who in ("9.", "ABCDEFGHI.", "A.B.C.", ".", "A..", ".A.", "A.9.", "A.ABCDEFGHI."):
            self.all_are_none(who + "RC GT 1", who + "ABEND", who + "ABENDCC EQ U0001", who + "RUN")

    def test_no_questions(self):
        self.all_are_none("", "RUN", "OR", "AND", "NOT", "A", "A.B", "A.ABENDED", "ABENDCC", "ABEND.", "A.RC.", "RC.A GT 1", "THEN",
                          "A. RC=1", "A .RC=1", "ABEND ABEND", "ABEND 4", "ABEND=4", "A.RUN=1", "abend", "4", "=", "A.RUNS")

    def test_codes(self):
        for code in ("U0000", "U0001", "U4095", "U0400", "S000", "S0C4", "SFFF", "S9A0", "S806"):
            self.all_have_the_form(f"ABENDCC EQ {code}", f"ABENDCC={code}", f"ABENDCC EQ {code}", f"ABENDCC = {code}")
            self.all_have_the_form(f"A.ABENDCC NE {code}", f"A.ABENDCC!={code}", f"A.ABENDCC NE {code}")

    def test_no_codes(self):
        for code in ("U4096", "U9999", "U001", "U00001", "U", "U000A", "S00", "S0000", "S", "S0G0", "S0.0", "0001", "4", "X000", "U.000",
                     "S0@0", "u0001", "A0001"):
            self.all_are_none(f"ABENDCC EQ {code}")

    def test_codes_are_only_equal_or_not(self):
        for compare in ("GT", "LT", "GE", "LE", ">", "<", ">=", "<="):
            self.all_are_none(f"ABENDCC {compare} U0001")
        self.all_are_none("ABENDCC", "ABENDCC U0001", "ABENDCC EQ", "ABENDCC EQ 0004", "RC EQ S0C4")


class Joints(Forms):
    def test_the_documents_example(self):
        self.all_have_the_form("S1.RC GT 4 AND NOT (ABEND OR S2.RUN)", "S1.RC>04 & !(ABEND|S2.RUN)")

    def test_signs_and_words(self):
        self.all_have_the_form("ABEND OR A.RUN", "ABEND|A.RUN", "ABEND OR A.RUN", "(ABEND)OR(A.RUN)", "((ABEND | A.RUN))")
        self.all_have_the_form("ABEND AND A.RUN", "ABEND&A.RUN", "ABEND AND A.RUN", "(ABEND)AND(A.RUN)", "( ABEND & A.RUN )")
        self.all_have_the_form("NOT ABEND", "!ABEND", "NOT ABEND", "NOT(ABEND)", "! (ABEND)", "(NOT ABEND)")
        self.all_have_the_form("NOT NOT ABEND", "!!ABEND", "NOT !ABEND", "!(NOT ABEND)")

    def test_or_joins_from_the_left(self):
        self.all_have_the_form("A.RUN OR B.RUN OR C.RUN", "A.RUN|B.RUN|C.RUN", "(A.RUN|B.RUN)|C.RUN")
        self.all_have_the_form("A.RUN OR (B.RUN OR C.RUN)", "A.RUN|(B.RUN|C.RUN)")

    def test_and_joins_from_the_left(self):
        self.all_have_the_form("A.RUN AND B.RUN AND C.RUN", "A.RUN&B.RUN&C.RUN", "(A.RUN&B.RUN)&C.RUN")
        self.all_have_the_form("A.RUN AND (B.RUN AND C.RUN)", "A.RUN&(B.RUN&C.RUN)")

    def test_and_binds_closer_than_or(self):
        self.all_have_the_form("A.RUN OR B.RUN AND C.RUN", "A.RUN|B.RUN&C.RUN", "A.RUN|(B.RUN&C.RUN)")
        self.all_have_the_form("A.RUN AND B.RUN OR C.RUN", "A.RUN&B.RUN|C.RUN", "(A.RUN&B.RUN)|C.RUN")
        self.all_have_the_form("(A.RUN OR B.RUN) AND C.RUN", "(A.RUN|B.RUN)&C.RUN")
        self.all_have_the_form("A.RUN AND (B.RUN OR C.RUN)", "A.RUN&(B.RUN|C.RUN)")

    def test_not_binds_closest(self):
        self.all_have_the_form("NOT A.RUN AND B.RUN", "!A.RUN&B.RUN", "(!A.RUN)&B.RUN")
        self.all_have_the_form("NOT (A.RUN AND B.RUN)", "!(A.RUN&B.RUN)")
        self.all_have_the_form("NOT (A.RUN OR B.RUN)", "!(A.RUN|B.RUN)")
        self.all_have_the_form("A.RUN AND NOT B.RUN", "A.RUN&!B.RUN", "A.RUN&(!B.RUN)")
        self.all_have_the_form("A.RUN OR NOT B.RUN", "A.RUN|(!B.RUN)")
        self.all_have_the_form("NOT RC NE 4", "!RC!=4", "!(RC!=04)")

    def test_a_plain_form_is_its_own_plain_form(self):
        for form in ("(A.RUN OR B.RUN) AND (C.RUN OR NOT (D.RUN AND E.RUN)) OR F.RUN", "A.RUN AND (B.RUN AND (C.RUN OR D.RUN))"):
            self.all_have_the_form(form, form)

    def test_what_is_not_joined_rightly(self):
        self.all_are_none("ABEND OR", "OR ABEND", "ABEND AND", "ABEND||ABEND", "ABEND&&ABEND", "ABEND NOT ABEND", "ABENDORABEND",
                          "ABEND OR OR ABEND", "(ABEND", "ABEND)", "()", "(ABEND))", "((ABEND)", "ABEND(ABEND)", "(ABEND)(ABEND)",
                          "NOT", "ABEND NOT", "!", "(NOT)ABEND", "ABEND XOR ABEND", "RC=4AND ABEND", ")ABEND(", "ABEND or ABEND")

    def test_other_bytes(self):
        for byte in range(33, 127):
            sign = chr(byte)
            if sign not in "ABCDEFGHIJKLMNOPQRSTUVWXYZ@#$0123456789.><=!&|()":
                self.all_are_none(f"ABEND{sign}", f"{sign} ABEND", f"ABEND {sign}")


class Ends(unittest.TestCase):
    """In a statement a blank stands behind each test; it's none the less one without."""

    def test_no_blank_at_the_end(self):
        for text, form in {"ABEND": "ABEND", "RC>04": "RC GT 4", "(A.RUN)": "A.RUN", "ABENDCC=S0C4": "ABENDCC EQ S0C4"}.items():
            self.assertEqual(plain_form([ord(sign) for sign in text]), [ord(sign) for sign in form])

    def test_no_test_without_a_blank_at_the_end(self):
        for text in ("", "RC", "RC>", "!", "(", "(ABEND", "ABEND|", "ABENDCC="):
            with self.assertRaises(NoTest, msg=text):
                plain_form([ord(sign) for sign in text])


class Depth(Forms):
    def test_brackets(self):
        self.all_have_the_form("ABEND", "(" * 12 + "ABEND" + ")" * 12)
        self.all_are_none("(" * 13 + "ABEND" + ")" * 13)

    def test_nots(self):
        self.all_have_the_form("NOT " * 12 + "ABEND", "!" * 12 + "ABEND", "NOT " * 12 + "ABEND")
        self.all_are_none("!" * 13 + "ABEND", "NOT " * 13 + "ABEND")

    def test_both_together(self):
        self.all_have_the_form("NOT " * 6 + "ABEND", "!(" * 6 + "ABEND" + ")" * 6)
        self.all_are_none("!(" * 6 + "!ABEND" + ")" * 6, "!(" * 6 + "(ABEND)" + ")" * 6)
        self.all_are_none("!(" * 6 + "ABEND|!ABEND" + ")" * 6)

    def test_depth_is_counted_in_one_another_only(self):
        deep = "(" * 12 + "ABEND" + ")" * 12
        self.all_have_the_form("ABEND OR ABEND AND ABEND", f"{deep} | {deep} & {deep}")
        self.all_have_the_form(" OR ".join(["NOT ABEND"] * 100), "|".join(["!ABEND"] * 9) + " |!ABEND" * 91)

    def test_brackets_without_end(self):
        self.all_are_none("(" * 60, " ".join(["("] * 900), " ".join(["!"] * 900))


class Fields(unittest.TestCase):
    def test_one_card(self):
        told = ask(feed_cards("//A IF RC=04 THEN   "), statement(0), counts())
        self.assertEqual(statement_of(told[1]), [7, 1, 1, 0, 0, "A", "RC EQ 4"])
        self.assertEqual(told[2], [1, 1, 0, 0, 0, 0])

    def test_several_cards(self):
        told = ask(feed_cards("//*", "//A IF RC=04 |", "//* x", "//       ABEND", "//  THEN", "//"), statement(0), counts())
        self.assertEqual(statement_of(told[1]), [7, 2, 5, 0, 0, "A", "RC EQ 4 OR ABEND"])
        self.assertEqual(told[2], [6, 2, 0, 0, 0, 0])

    def test_a_blank_is_put_between_pieces(self):
        self.assertEqual(finished("// IF ABE", "// ND THEN").errors, [(6, 1)])
        self.assertEqual(finished("// IF R", "// C=4 THEN").errors, [(6, 1)])
        self.assertEqual(texts_of(finished("// IF A.RC >", "// 4 AND", "// B.RUN", "//" + " " * 13 + "THEN")), ["A.RC GT 4 AND B.RUN"])

    def test_an_empty_first_part(self):
        told = ask(feed_cards("// IF"), counts(), feed_cards("// ABEND THEN"), statement(0))
        self.assertEqual(told[1], [1, 0, 0, 0, 1, 0])
        self.assertEqual(statement_of(told[3]), [7, 1, 2, 0, 0, "", "ABEND"])

    def test_then_alone_is_at_its_end(self):
        self.assertEqual(finished("//*", "// IF THEN").errors, [(6, 2)])
        self.assertEqual(finished("//*", "// IF", "// THEN").errors, [(6, 2)])

    def test_then_has_to_stand_by_itself_at_the_end(self):
        for text in ("ABEND", "(ABEND)THEN", "ABEND THEN X", "ABEND THEN,", "ABEND then", "ABEND THE", "XTHEN", "THENX"):
            self.assertEqual(read("// IF " + text).mode, 1)

    def test_an_operand_may_reach_to_column_71(self):
        for blanks, mode in ((57, 0), (58, 1)):
            self.assertEqual(read("// IF ABEND" + " " * (blanks - 1) + "THEN").mode, mode)

    def test_columns_to_go_on(self):
        for column in range(4, 17):
            card = "//" + " " * (column - 3) + "THEN"
            self.assertEqual(texts_of(finished("// IF ABEND", card)), ["ABEND"])
        self.assertEqual(finished("// IF ABEND", "//" + " " * 14 + "THEN").errors, [(4, 1), (3, 2)])

    def test_no_quote_is_open_in_an_if(self):
        self.assertEqual(finished("// IF 'ABEND", "// THEN").errors, [(6, 1)])
        self.assertEqual(finished("// IF 'ABEND", "//", "// PEND").errors, [(4, 1)])
        self.assertEqual(read("// IF 'ABEND THEN").errors, [(6, 1)])

    def test_not_gone_on(self):
        reader = finished("// IF ABEND", "//A DD X")
        self.assertEqual((reader.errors, texts_of(reader)), ([(4, 1)], ["X"]))
        self.assertEqual(finished("// IF ABEND").errors, [(4, 1)])

    def test_behind_a_wrong_test_the_mode_is_plain(self):
        self.assertEqual(ask(feed_cards("// IF X THEN", "// ELSE", "// ENDIF"), counts())[1], [3, 2, 1, 0, 0, 0])


class Lengths(unittest.TestCase):
    def errors_of(self, pieces):
        cards = ["// IF " + pieces[0]] + ["// " + piece for piece in pieces[1:]]
        return finished("//*", *cards).errors

    def test_a_text_of_2000_signs(self):
        for length, errors in ((2000, []), (2001, [(5, 2)])):
            pieces = ["ABEND"] + ["|" + " " * 60 + "ABEND"] * 29
            rest = length - len(" ".join(pieces)) - len(" |ABEND THEN")
            pieces.append("|" + " " * rest + "ABEND THEN")
            self.assertEqual(len(" ".join(pieces)), length)
            self.assertEqual(self.errors_of(pieces), errors)

    def test_a_plain_form_of_1995_signs(self):
        for first, length, errors in (("ABCDEFG.A.ABEND", 1995, []), ("ABCDEFGH.A.ABEND", 1996, [(5, 2)])):
            pieces = [first] + ["|ABEND" * 11] * 20 + ["THEN"]
            self.assertEqual(len(first + " OR ABEND" * 220), length)
            self.assertEqual(self.errors_of(pieces), errors)

    def test_a_plain_form_of_1995_signs_is_told(self):
        pieces = ["ABCDEFG.A.ABEND"] + ["|ABEND" * 11] * 20 + ["THEN"]
        cards = ["// IF " + pieces[0]] + ["// " + piece for piece in pieces[1:]]
        told = ask(feed_cards(*cards), statement(0))
        self.assertEqual(statement_of(told[1]), [7, 1, 22, 0, 0, "", "ABCDEFG.A.ABEND" + " OR ABEND" * 220])

    def test_a_wrong_test_comes_before_a_long_form(self):
        pieces = ["ABEND"] + ["|ABEND" * 11] * 25
        self.assertEqual(self.errors_of(pieces + ["| THEN"]), [(6, 2)])
        self.assertEqual(self.errors_of(pieces + ["|ABEND THEN"]), [(5, 2)])


if __name__ == "__main__":
    unittest.main()
