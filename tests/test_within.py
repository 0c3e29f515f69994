"""Statements over several cards: going on, pieces, errors 4 and 5."""

import unittest

from calls import ask, counts, feed, feed_cards, finish, finished, item, item_of, read, statement, statement_of, texts_of

WITHIN = 1


class GoingOn(unittest.TestCase):
    def test_behind_a_comma(self):
        told = ask(feed_cards("//A DD DSN=X,"), counts(), statement(0), feed_cards("//   DISP=SHR"), counts(), statement(0))
        self.assertEqual(told[1], [1, 0, 0, 0, WITHIN, 0])
        self.assertEqual(told[2], [-5])
        self.assertEqual(told[4], [2, 1, 0, 0, 0, 0])
        self.assertEqual(statement_of(told[5]), [3, 1, 2, 2, 0, "A", "DSN=X,DISP=SHR"])

    def test_over_many_cards(self):
        told = ask(feed_cards("//*", "//A SET A=1,", "// B=2,", "// C=3,", "// D=4", "//"), statement(0), statement(1))
        self.assertEqual(statement_of(told[1]), [6, 2, 5, 4, 0, "A", "A=1,B=2,C=3,D=4"])
        self.assertEqual(statement_of(told[2]), [10, 6, 6, 0, 0, "", ""])

    def test_each_kind_with_operands_goes_on(self):
        for operation in ("JOB", "EXEC", "DD", "PROC", "SET"):
            self.assertEqual(texts_of(read(f"//A {operation} X,", "// Y")), ["X,Y"])

    def test_columns_4_to_16_may_begin_the_part(self):
        for column in range(4, 17):
            card = "//" + " " * (column - 3) + "Y"
            self.assertEqual(texts_of(finished("//A DD X,", card)), ["X,Y"])

    def test_column_17_may_not(self):
        reader = finished("//*", "//A DD X,", "//" + " " * 14 + "Y")
        self.assertEqual(reader.errors, [(4, 2), (3, 3)])

    def test_column_3_has_to_be_blank(self):
        reader = finished("//A DD X,", "//Y DD Z")
        self.assertEqual((reader.errors, texts_of(reader)), ([(4, 1)], ["Z"]))

    def test_a_part_ends_in_column_71(self):
        card = "// " + "Y" * 68 + "ZZZZZZZZZ"
        self.assertEqual(texts_of(finished("//A DD X,", card)), ["X," + "Y" * 68])

    def test_a_comma_in_column_71_and_not_in_72(self):
        self.assertEqual(read("//A DD " + "X" * 63 + ",").mode, WITHIN)
        self.assertEqual(read("//A DD " + "X" * 64 + ",").mode, 0)

    def test_what_is_behind_a_blank_is_a_comment(self):
        reader = finished("//A DD X, 'Y", "// Z, (,", "// W V,")
        self.assertEqual((reader.errors, texts_of(reader)), ([], ["X,Z,W"]))

    def test_a_comment_ending_in_a_comma_does_not_go_on(self):
        self.assertEqual(read("//A DD X Y,").mode, 0)

    def test_comment_cards_stand_between(self):
        told = ask(feed_cards("//A DD X,", "//* Y", "//*", "// Z"), statement(0), counts())
        self.assertEqual(statement_of(told[1]), [3, 1, 4, 2, 0, "A", "X,Z"])
        self.assertEqual(told[2], [4, 1, 0, 0, 0, 0])

    def test_a_comment_card_keeps_the_mode(self):
        self.assertEqual(ask(feed_cards("//A DD X,", "//*"), counts())[1], [2, 0, 0, 0, WITHIN, 0])


class Dropped(unittest.TestCase):
    def test_a_blank_card_does_not_go_on(self):
        reader = finished("//A DD X,", "//")
        self.assertEqual((reader.errors, [kept.kind for kept in reader.statements]), ([(4, 1)], [10]))

    def test_a_card_blank_up_to_column_71_does_not_go_on(self):
        reader = finished("//A DD X,", "//" + " " * 69 + "Y,")
        self.assertEqual((reader.errors, [kept.kind for kept in reader.statements]), ([(4, 1)], [10]))

    def test_the_card_is_read_as_in_plain_mode(self):
        self.assertEqual(finished("//A DD X,", "Y").errors, [(4, 1), (1, 2)])
        self.assertEqual(finished("//A DD X,", "/*").errors, [(4, 1)])
        self.assertEqual(finished("//A DD X,", "//9 DD").errors, [(4, 1), (2, 2)])

    def test_the_card_may_begin_the_next_statement(self):
        told = ask(feed_cards("//A DD X,", "//B DD Y,", "// Z"), counts(), statement(0))
        self.assertEqual(told[1], [3, 1, 1, 0, 0, 0])
        self.assertEqual(statement_of(told[2]), [3, 2, 3, 2, 0, "B", "Y,Z"])

    def test_the_quote_of_a_dropped_statement_is_forgotten(self):
        reader = finished("//A DD X='", "//B DD Y,", "// Z")
        self.assertEqual((reader.errors, texts_of(reader)), ([(4, 1)], ["Y,Z"]))

    def test_finish_drops_the_statement(self):
        told = ask(feed_cards("//A DD DSN=X,"), finish(), counts())
        self.assertEqual(told[1:], [[0], [1, 0, 1, 0, 3, 0]])
        self.assertEqual(finished("//*", "//A DD DSN=X,").errors, [(4, 2)])

    def test_cards_behind_a_drop_are_read_as_in_plain_mode(self):
        reader = finished("//A DD X=(,", "X", "// Y)")
        self.assertEqual(reader.errors, [(4, 1), (1, 2), (3, 3)])


class Quotes(unittest.TestCase):
    def test_blanks_within_a_quote(self):
        told = ask(feed_cards("//S1 EXEC PGM=SORT,PARM='A B' first"), statement(0))
        self.assertEqual(statement_of(told[1]), [2, 1, 1, 2, 0, "S1", "PGM=SORT,PARM='A B'"])

    def test_a_quote_over_three_cards(self):
        told = ask(feed_cards("//A DD X='", "//", "//" + " " * 13 + "q'"), statement(0), item(0, 0))
        text = "X='" + " " * 61 + " " * 56 + "q'"
        self.assertEqual(statement_of(told[1]), [3, 1, 3, 1, 0, "A", text])
        self.assertEqual(item_of(told[2]), [2, 0, "X", " " * 117 + "q", ""])

    def test_a_quote_ends_at_column_71(self):
        reader = finished("//A DD '" + "X" * 63 + "Z", "//" + " " * 13 + "Y" * 56 + "Z", "//" + " " * 13 + "'")
        self.assertEqual((reader.errors, texts_of(reader)), ([], ["'" + "X" * 63 + "Y" * 56 + "'"]))

    def test_columns_4_to_15_have_to_be_blank(self):
        for column in range(3, 16):
            card = "//" + " " * (column - 3) + "Y" + " " * (16 - column) + "'"
            self.assertEqual(finished("//A DD '", card).errors[0], (4, 1))
        reader = finished("//A DD '", "//" + " " * 14 + "Y'")
        self.assertEqual(texts_of(reader), ["'" + " " * 63 + " Y'"])

    def test_a_closed_quote_before_a_comma_goes_on_in_any_column(self):
        reader = finished("//A DD X='Y Z', W", "// V='U',", "// T")
        self.assertEqual(reader.errors, [(7, 1)])
        self.assertEqual(texts_of(finished("//A DD X='Y Z', W", "// V='U'")), ["X='Y Z',V='U'"])

    def test_a_quote_closed_on_a_later_card_goes_on_behind_a_comma(self):
        reader = finished("//A DD X='", "//" + " " * 13 + "Y', Z", "// W=V")
        self.assertEqual((reader.errors, texts_of(reader)), ([], ["X='" + " " * 61 + "Y',W=V"]))

    def test_a_quote_opened_on_a_later_card(self):
        reader = finished("//A DD X,", "// 'Y", "//" + " " * 13 + "Z'")
        self.assertEqual((reader.errors, texts_of(reader)), ([], ["X,'Y" + " " * 66 + "Z'"]))

    def test_a_comma_in_an_open_quote_does_not_end_it(self):
        self.assertEqual(finished("//A DD X='Y,", "// Z'").errors, [(4, 1), (3, 2)])

    def test_a_text_ending_in_a_quoted_comma_is_at_its_end(self):
        self.assertEqual(texts_of(read("//A DD X=','")), ["X=','"])

    def test_two_quotes_cut_by_the_card(self):
        first = "//A DD '" + "X" * 62 + "'"
        reader = finished(first, "//" + " " * 13 + "''")
        self.assertEqual((reader.errors, len(reader.statements)), ([(3, 2)], 1))
        second = "//A DD '" + "X" * 61 + "''"
        reader = finished(second, "//" + " " * 13 + "''', Y", "// Z")
        self.assertEqual((reader.errors, texts_of(reader)), ([], ["'" + "X" * 61 + "''" + "''',Z"]))

    def test_comment_cards_stand_between_in_a_quote(self):
        reader = finished("//A DD '", "//*" + " " * 12 + "Y'", "//" + " " * 13 + "Z'")
        self.assertEqual((reader.errors, texts_of(reader)), ([], ["'" + " " * 63 + "Z'"]))

    def test_a_null_card_goes_on_with_a_quote(self):
        told = ask(feed_cards("//A DD '", "//"), counts(), finish(), counts())
        self.assertEqual(told[1], [2, 0, 0, 0, WITHIN, 0])
        self.assertEqual(told[3], [2, 0, 1, 0, 3, 0])


def set_cards(length):
    """Cards of one SET statement whose text has this many signs, at least 140."""
    text = "X" * 60 + ","
    cards = ["//A SET " + text]
    left = length - len(text)
    while left > 136:
        cards.append("// " + "Y" * 67 + ",")
        left -= 68
    half = left // 2
    cards.append("// " + "Z" * (half - 1) + ",")
    cards.append("// " + "W" * (left - half))
    return cards


class Lengths(unittest.TestCase):
    def test_2000_signs(self):
        reader = finished(*set_cards(2000))
        self.assertEqual((reader.errors, [len(text) for text in texts_of(reader)]), ([], [2000]))

    def test_2001_signs(self):
        reader = finished("//*", *set_cards(2001))
        self.assertEqual((reader.errors, reader.statements), ([(5, 2)], []))

    def test_a_long_text_is_dropped_before_its_end(self):
        cards = ["//A DD '"] + ["//"] * 35
        told = ask(feed_cards(*cards), counts())
        # 64 signs and 34 cards of 56 are 1968, the 35th is too much: a card behind it is a null statement.
        self.assertEqual(told[1], [36, 0, 1, 0, 0, 0])
        self.assertEqual(ask(feed_cards(*cards, "//"), counts())[1], [37, 1, 1, 0, 0, 0])

    def test_a_long_text_that_is_no_operand_text_is_too_long(self):
        cards = set_cards(2001)
        cards[-1] = cards[-1][:-1] + "("
        self.assertEqual(finished(*cards).errors, [(5, 1)])


class Finishing(unittest.TestCase):
    def test_error_6_is_told_of_the_first_card(self):
        for text in ("(", "X(", "X=Y=Z", "X'Y'", "()X", "'A'B"):
            reader = finished("//*", "//A SET X,", "// " + text, "//")
            self.assertEqual((reader.errors, len(reader.statements)), ([(6, 2)], 1))

    def test_error_7(self):
        for text in ("A=1,B", "A=1,A=2", "A=1,,B=2", "A.B=,A.B=", "A=(1,(2,3)),B"):
            for operation in ("JOB", "EXEC", "DD", "PROC", "SET"):
                reader = finished("//*", f"//X {operation} {text}")
                self.assertEqual((reader.errors, reader.statements), ([(7, 2)], []))

    def test_error_6_comes_before_7(self):
        self.assertEqual(finished("//X SET A=1,B,(").errors, [(6, 1)])

    def test_behind_an_error_the_mode_is_plain(self):
        for text in ("(", "A=1,B", "X,DLM=AB"):
            self.assertEqual(ask(feed_cards("//A DD " + text), counts())[1], [1, 0, 1, 0, 0, 0])

    def test_cards_that_would_have_gone_on_are_plain(self):
        self.assertEqual(finished("//A DD X'Y", "//" + " " * 13 + "Z'").errors, [(6, 1)])
        self.assertEqual(finished("//A DD (", "// X,", "// Y)").errors, [(6, 1), (3, 2), (3, 3)])

    def test_fed_in_pieces_it_is_the_same(self):
        signs = "//A DD X='\n//*\n//             y z', c\n//  W=(V,\n//  U)\n"
        whole = ask(feed(signs), statement(0), counts())
        pieces = ask(*[feed(sign) for sign in signs], statement(0), counts())
        self.assertEqual(pieces[-2:], whole[-2:])
        self.assertEqual(statement_of(whole[1])[:5], [3, 1, 5, 2, 0])


if __name__ == "__main__":
    unittest.main()
