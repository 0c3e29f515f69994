"""cards: a statement's cards in plain form, which are read as the same statement again."""

import unittest

from calls import ask, cards, cards_of, counts, feed, feed_cards, finish, item, item_of, row, statement, statement_of

OPERATIONS = ("JOB", "EXEC", "DD", "PROC", "SET")
WITHIN_QUOTE = "//" + " " * 13
CANNOT_BE_LAID = [-7]


def laid(*given, k=0):
    """What cards tells of statement k behind these cards."""
    return cards_of(ask(feed_cards(*given), cards(k))[1])


def text_of(*given):
    return statement_of(ask(feed_cards(*given), statement(0))[1])[6]


def shifted(begin, text):
    """Cards whose text is cut wherever a card is full, so that a quote is to be open there."""
    end = 71 - len(begin)
    told = [begin + text[:end]]
    while end < len(text):
        told.append(WITHIN_QUOTE + text[end:end + 56])
        end += 56
    return told


def items_of(given, k, path):
    """The items at and below a path, as item tells them."""
    answer = ask(given, item(k, *path))[1]
    told = [(path, item_of(answer))]
    for place in range(answer[1]):
        told.extend(items_of(given, k, path + (place,)))
    return told


def all_of(given, k):
    """All that is told of a statement but its cards' numbers."""
    told = statement_of(ask(given, statement(k))[1])
    found = [items_of(given, k, (place,)) for place in range(told[3])]
    rows = ask(given, *[row(k, r) for r in range(told[4])])[1:]
    return told[0], told[5], told[6], found, rows


class OneCard(unittest.TestCase):
    def test_the_null_statement(self):
        self.assertEqual(laid("//"), ["//"])
        self.assertEqual(laid("//" + " " * 69 + "XXX"), ["//"])

    def test_the_form_of_the_answer(self):
        self.assertEqual(ask(feed_cards("//"), cards(0))[1], [1, 2, 47, 47])
        told = ask(feed_cards("//A DD *", "/*"), cards(0))[1]
        self.assertEqual(told, [2, 8, 47, 47, 65, 32, 68, 68, 32, 42, 2, 47, 42])

    def test_an_empty_text(self):
        for operation in OPERATIONS:
            self.assertEqual(laid(f"//A   {operation}  "), [f"//A {operation}"])

    def test_operations_without_a_text(self):
        for operation in ("PEND", "ELSE", "ENDIF"):
            for behind in ("", "  ", " X", "  X,", " '"):
                self.assertEqual(laid(f"//A  {operation}{behind}"), [f"//A {operation}"])
                self.assertEqual(laid(f"//  {operation}{behind}"), [f"// {operation}"])

    def test_a_text(self):
        for operation in OPERATIONS:
            self.assertEqual(laid(f"//A   {operation}    X,Y='A B',Z=(1,2)  a remark"), [f"//A {operation} X,Y='A B',Z=(1,2)"])

    def test_a_test(self):
        self.assertEqual(laid("//A  IF (RC>04 | ABEND)   THEN"), ["//A IF RC GT 4 OR ABEND THEN"])
        self.assertEqual(laid("// IF ABEND", "// THEN"), ["// IF ABEND THEN"])

    def test_labels(self):
        for name in ("", "A", "ABCDEFGH", "ABCDEFGH.ABCDEFGH", "$.@1"):
            self.assertEqual(laid(f"//{name}    DD    X"), [f"//{name} DD X"])

    def test_pieces_are_put_together(self):
        self.assertEqual(laid("//A DD DSN=X,", "//*", "//   DISP=SHR"), ["//A DD DSN=X,DISP=SHR"])


class Room(unittest.TestCase):
    def test_on_the_first_card(self):
        given = ("//A SET " + "X" * 60 + ",", "// YZ")
        self.assertEqual(laid(*given), ["//A SET " + "X" * 60 + ",YZ"])
        given = ("//A SET " + "X" * 60 + ",", "// YZV")
        self.assertEqual(laid(*given), ["//A SET " + "X" * 60 + ",", "// YZV"])

    def test_a_comma_that_just_has_room(self):
        given = ("//A SET " + "X" * 59 + ",", "// Y,", "// Z,", "// W")
        self.assertEqual(laid(*given), ["//A SET " + "X" * 59 + ",Y,", "// Z,W"])
        given = ("//A SET " + "X" * 60 + ",", "// Y,", "// Z,", "// W")
        self.assertEqual(laid(*given), ["//A SET " + "X" * 60 + ",Y,", "// Z,W"])
        given = ("//A SET " + "X" * 61 + ",", "// Y,", "// Z,", "// W")
        self.assertEqual(laid(*given), ["//A SET " + "X" * 61 + ",", "// Y,Z,W"])
        given = ("//A SET " + "X" * 62 + ",", "// Y")
        self.assertEqual(laid(*given), ["//A SET " + "X" * 62 + ",", "// Y"])

    def test_the_room_is_less_behind_a_longer_head(self):
        for label, operation in (("", "DD"), ("ABCDEFGH", "EXEC"), ("ABCDEFGH.ABCDEFGH", "DD"), ("A", "JOB"), ("A", "PROC")):
            head = f"//{label} {operation}"
            room = 71 - len(head) - 1
            self.assertEqual(laid(f"{head} " + "X" * (room - 2) + ",", "// Y"), [f"{head} " + "X" * (room - 2) + ",Y"])
            self.assertEqual(laid(f"{head} " + "X" * (room - 1) + ",", "// Y"), [f"{head} " + "X" * (room - 1) + ",", "// Y"])
            quoted = "'" + "X" * (room - 1) + "'"
            self.assertEqual(laid(*shifted(f"//{label}     {operation} ", quoted)), [f"{head} {quoted[:-1]}", WITHIN_QUOTE + "'"])

    def test_behind_slashes_and_one_blank(self):
        first = "//A SET " + "X" * 62 + ","
        self.assertEqual(laid(first, "// " + "Y" * 66 + ",", "// Z"), [first, "// " + "Y" * 66 + ",Z"])
        self.assertEqual(laid(first, "// " + "Y" * 66 + ",", "// ZZ"), [first, "// " + "Y" * 66 + ",", "// ZZ"])
        self.assertEqual(laid(first, "// " + "Y" * 67 + ",", "// Z"), [first, "// " + "Y" * 67 + ",", "// Z"])
        self.assertEqual(laid(first, "// " + "Y" * 68), [first, "// " + "Y" * 68])

    def test_a_quote_behind_slashes_and_one_blank(self):
        first = "//A SET " + "X" * 62 + ","
        self.assertEqual(laid(first, *shifted("//         ", "'" + "Y" * 66 + "'")), [first, "// '" + "Y" * 66 + "'"])
        self.assertEqual(laid(first, *shifted("//         ", "'" + "Y" * 67 + "'")), [first, "// '" + "Y" * 67, WITHIN_QUOTE + "'"])

    def test_behind_slashes_and_thirteen_blanks(self):
        first = "//A SET '" + "X" * 62
        for length, behind in ((55, ["Y" * 55 + "'"]), (56, ["Y" * 56, "'"]), (111, ["Y" * 56, "Y" * 55 + "'"]), (112, ["Y" * 56] * 2 + ["'"])):
            given = shifted("//A      SET ", "'" + "X" * 62 + "Y" * length + "'")
            self.assertEqual(laid(*given), [first] + [WITHIN_QUOTE + piece for piece in behind])

    def test_a_comma_behind_slashes_and_thirteen_blanks(self):
        first = "//A SET '" + "X" * 62
        given = shifted("//A      SET ", "'" + "X" * 62 + "Y" * 53 + "',Z")
        self.assertEqual(laid(*given), [first, WITHIN_QUOTE + "Y" * 53 + "',Z"])
        self.assertEqual(laid(*given[:-1], given[-1] + ",W"), [first, WITHIN_QUOTE + "Y" * 53 + "',", "// Z,W"])
        given = shifted("//A      SET ", "'" + "X" * 62 + "Y" * 54 + "',Z")
        self.assertEqual(laid(*given), [first, WITHIN_QUOTE + "Y" * 54 + "',", "// Z"])

    def test_the_room_is_68_again_behind_a_comma(self):
        first = "//A SET '" + "X" * 62
        given = shifted("//A      SET ", "'" + "X" * 62 + "Y',Z,") + ["// " + "W" * 68]
        self.assertEqual(laid(*given), [first, WITHIN_QUOTE + "Y',Z,", "// " + "W" * 68])

    def test_2000_signs(self):
        given = ["//A SET X,"] + ["// " + "Y" * 67 + ","] * 29 + ["// " + "Z" * 26]
        self.assertEqual(len(text_of(*given)), 2000)
        self.assertEqual(laid(*given), given)


class Cuts(unittest.TestCase):
    def test_at_the_last_comma(self):
        self.assertEqual(laid("//A SET A=1,", "// B=2,", "// C=" + "X" * 40 + ",", "// D=" + "Y" * 40),
                         ["//A SET A=1,B=2,C=" + "X" * 40 + ",", "// D=" + "Y" * 40])

    def test_within_a_list(self):
        self.assertEqual(laid("//A SET (A,", "// B,", "// " + "X" * 60 + ",", "// C)"), ["//A SET (A,B,", "// " + "X" * 60 + ",C)"])

    def test_not_at_a_comma_in_an_open_quote(self):
        given = ("//A SET A=1,", "// B='" + "X," * 29 + "'")
        self.assertEqual(laid(*given), ["//A SET A=1,", "// B='" + "X," * 29 + "'"])

    def test_at_the_last_comma_at_which_no_quote_is_open(self):
        given = ["//A SET A='1,2',"] + shifted("// ", "B='" + "X," * 40 + "'")
        self.assertEqual(laid(*given), ["//A SET A='1,2',", "// B='" + "X," * 32 + "X", WITHIN_QUOTE + "," + "X," * 7 + "'"])

    def test_a_comma_comes_before_an_open_quote(self):
        given = ["//A SET A,"] + shifted("// ", "'" + " " * 80 + "'")
        self.assertEqual(laid(*given), ["//A SET A,", "// '" + " " * 67, WITHIN_QUOTE + " " * 13 + "'"])

    def test_a_comma_first_of_all(self):
        given = ["//A SET ,"] + shifted("// ", "'" + "X" * 80 + "'")
        self.assertEqual(laid(*given), ["//A SET ,", "// '" + "X" * 67, WITHIN_QUOTE + "X" * 13 + "'"])

    def test_a_comma_straight_behind_a_quote(self):
        given = ["//A SET 'X',"] + ["// " + "Y" * 60]
        self.assertEqual(laid(*given), given)

    def test_quotes_written_twice(self):
        given = ["//A SET 'it''s,',"] + shifted("// ", "'a'',''b" + "X" * 80 + "'")
        self.assertEqual(laid(*given), ["//A SET 'it''s,',", "// 'a'',''b" + "X" * 60, WITHIN_QUOTE + "X" * 20 + "'"])

    def test_in_an_open_quote_with_blanks_at_the_end(self):
        given = ("//A DD X='", "//", WITHIN_QUOTE + "q'")
        self.assertEqual(laid(*given), ["//A DD X='" + " " * 61, WITHIN_QUOTE + " " * 56, WITHIN_QUOTE + "q'"])

    def test_blanks_at_the_end_stay_where_the_cards_were_others(self):
        given = shifted("//A     DD    ", "X='A" + " " * 130 + "B C" + " " * 70 + "'")
        self.assertEqual(laid(*given), [
            "//A DD X='A" + " " * 60, WITHIN_QUOTE + " " * 56, WITHIN_QUOTE + " " * 14 + "B C" + " " * 39, WITHIN_QUOTE + " " * 31 + "'",
        ])

    def test_two_quotes_cut_just_behind_the_second(self):
        text = "'" + "X" * 60 + "''YZ'"
        self.assertEqual(laid(*shifted("//A    SET ", text)), ["//A SET '" + "X" * 60 + "''", WITHIN_QUOTE + "YZ'"])


class CannotBeLaid(unittest.TestCase):
    def test_the_first_of_two_quotes_is_the_last_sign_with_room(self):
        for before, told in ((60, None), (61, CANNOT_BE_LAID), (62, None)):
            text = "'" + "X" * before + "''YZ'"
            given = shifted("//A     SET ", text)
            self.assertEqual(text_of(*given), text)
            self.assertEqual(laid(*given), told or ["//A SET " + text[:63], WITHIN_QUOTE + text[63:]])

    def test_a_closing_quote_is_the_last_sign_with_room(self):
        text = "'" + "X" * 61 + "',Y"
        given = shifted("//A     SET ", text)
        self.assertEqual(text_of(*given), text)
        self.assertEqual(laid(*given), CANNOT_BE_LAID)

    def test_a_closing_quote_of_a_list_is_the_last_sign_with_room(self):
        text = "('" + "X" * 60 + "')"
        given = shifted("//A     SET ", text)
        self.assertEqual(text_of(*given), text)
        self.assertEqual(laid(*given), CANNOT_BE_LAID)

    def test_a_comma_before_it_helps(self):
        text = "('A','" + "X" * 56 + "',B)"
        given = shifted("//A     SET ", text)
        self.assertEqual(text_of(*given), text)
        self.assertEqual(laid(*given), ["//A SET ('A',", "// " + text[5:]])

    def test_on_a_card_behind_the_first(self):
        text = "'" + "X" * 62 + "Y" * 55 + "''Z'"
        given = shifted("//A     SET ", text)
        self.assertEqual(text_of(*given), text)
        self.assertEqual(laid(*given), CANNOT_BE_LAID)

    def test_on_a_card_behind_a_comma(self):
        text = "'" + "Y" * 66 + "''Z'"
        given = ["//A SET " + "X" * 62 + ","] + shifted("//     ", text)
        self.assertEqual(text_of(*given), "X" * 62 + "," + text)
        self.assertEqual(laid(*given), CANNOT_BE_LAID)

    def test_with_data(self):
        text = "*,X='" + "X" * 66 + "''Z'"
        given = ["//A DD *,"] + shifted("//          ", text[2:])
        told = ask(feed_cards(*given, "row", "/*"), cards(0), counts())
        self.assertEqual(cards_of(told[1]), ["//A DD *,", "// X='" + "X" * 65, WITHIN_QUOTE + "X''Z'", "row".ljust(80), "/*"])
        text = "*,X='" + "X" * 64 + "''Z'"
        given = ["//A DD *,"] + shifted("//          ", text[2:])
        told = ask(feed_cards(*given, "row", "/*"), cards(0), counts(), statement(0))
        self.assertEqual(told[1], CANNOT_BE_LAID)
        self.assertEqual(told[2], [5, 1, 0, 1, 0, 0])
        self.assertEqual(statement_of(told[3])[6], text)

    def test_others_are_laid_none_the_less(self):
        text = "'" + "X" * 61 + "',Y"
        given = feed_cards("//", *shifted("//A     SET ", text), "//B DD")
        told = ask(given, cards(0), cards(1), cards(2), cards(3))
        self.assertEqual([cards_of(answer) for answer in told[1:]], [["//"], CANNOT_BE_LAID, ["//B DD"], [-5]])


class Ifs(unittest.TestCase):
    def test_over_several_cards(self):
        given = ["//A IF ABEND"] + ["// |ABEND"] * 20 + ["// THEN"]
        self.assertEqual(laid(*given), [
            "//A IF ABEND OR ABEND OR ABEND OR ABEND OR ABEND OR ABEND OR ABEND OR",
            "// ABEND OR ABEND OR ABEND OR ABEND OR ABEND OR ABEND OR ABEND OR ABEND",
            "// OR ABEND OR ABEND OR ABEND OR ABEND OR ABEND OR ABEND THEN",
        ])

    def test_words_that_just_have_room_on_the_first_card(self):
        for name, told in (("ABCDEFG", 1), ("ABCDEFGH", 2)):
            before = "// IF ABEND OR ABEND OR ABEND OR ABEND OR ABEND OR"
            last = f"{name}.A.ABEND"
            self.assertEqual(len(f"{before} {last} THEN"), 70 + told)
            given = ("// IF ABEND|ABEND|ABEND|ABEND|ABEND", f"// |{last}", "// THEN")
            self.assertEqual(laid(*given), [[f"{before} {last} THEN"], [f"{before} {last}", "// THEN"]][told - 1])

    def test_words_that_just_have_room_on_a_card_behind(self):
        first = "// IF ABCDEFGH.ABCDEFGH.ABEND OR ABCDEFGH.ABCDEFGH.ABEND OR"
        for name, told in (("ABCD", 1), ("ABCDE", 2)):
            before = "// ABCDEFGH.ABCDEFGH.ABEND OR ABEND OR ABEND OR"
            last = f"{name}.ABC.ABEND"
            self.assertEqual(len(f"{before} {last} OR A.RUN"), 70 + told)
            given = (first, before, f"// {last} |", "// A.RUN THEN")
            behind = [f"{before} {last} OR A.RUN", "// THEN"] if told == 1 else [f"{before} {last} OR", "// A.RUN THEN"]
            self.assertEqual(laid(*given), [first] + behind)

    def test_then_may_stand_alone(self):
        first = "// IF ABCDEFGH.ABCDEFGH.ABEND OR ABCDEFGH.ABCDEFGH.ABEND OR ABEND"
        self.assertEqual(len(first), 65)
        self.assertEqual(laid(first, "// THEN"), [first + " THEN"])
        first = "//A IF ABCDEFGH.ABCDEFGH.ABEND OR ABCDEFGH.ABCDEFGH.ABEND OR A.ABEND"
        self.assertEqual(laid(first, "// THEN"), [first, "// THEN"])

    def test_brackets_stay_with_their_words(self):
        first = "//A IF NOT (ABCDEFGH.ABCDEFGH.RUN AND ABCDEFGH.ABCDEFGH.RUN) AND"
        self.assertEqual(laid(first, "// (ABEND|RC>4) THEN"), [first + " (ABEND", "// OR RC GT 4) THEN"])

    def test_a_plain_form_of_1995_signs(self):
        given = ["// IF ABCDEFG.A.ABEND"] + ["// " + "|ABEND" * 11] * 20 + ["// THEN"]
        told = laid(*given)
        self.assertEqual(len(text_of(*given)), 1995)
        self.assertEqual(" ".join([told[0][6:]] + [card[3:] for card in told[1:]]), text_of(*given) + " THEN")
        self.assertEqual(text_of(*told), text_of(*given))


class Data(unittest.TestCase):
    def test_rows_and_the_end_sign(self):
        self.assertEqual(laid("//A DD *", "row", "", "x" * 80, "/*"), ["//A DD *", "row".ljust(80), " " * 80, "x" * 80, "/*"])
        self.assertEqual(laid("//A DD DATA", "//", "/* x"), ["//A DD DATA", "//".ljust(80), "/*"])

    def test_with_an_end_sign_of_their_own(self):
        for word in ("*", "DATA"):
            for written, mark in {"ZZ": "ZZ", "'A '": "A ", "'  '": "  ", "''''''": "''", "//": "//", "/*": "/*", "'''('": "'("}.items():
                head = f"//A DD {word},DLM={written}"
                self.assertEqual(laid(head, "row", mark + " X", "//"), [head, "row".ljust(80), mark])

    def test_however_they_ended(self):
        for behind in ("/*", "//B DD X", "//", "//*", "//9 DD"):
            self.assertEqual(laid("//A DD *", "row", behind), ["//A DD *", "row".ljust(80), "/*"])

    def test_ended_by_finish(self):
        for word, mark in (("*", "/*"), ("DATA", "/*"), ("*,DLM=ZZ", "ZZ")):
            told = ask(feed_cards("//A DD " + word, "row"), finish(), cards(0))
            self.assertEqual(cards_of(told[2]), ["//A DD " + word, "row".ljust(80), mark])

    def test_while_they_are_in_hand(self):
        told = ask(feed("//A DD DATA,DLM=ZZ\n1\n2"), cards(0), feed("\n"), cards(0), feed_cards("ZZ", "3"), cards(0))
        self.assertEqual(cards_of(told[1]), ["//A DD DATA,DLM=ZZ", "1".ljust(80), "ZZ"])
        self.assertEqual(cards_of(told[3]), ["//A DD DATA,DLM=ZZ", "1".ljust(80), "2".ljust(80), "ZZ"])
        self.assertEqual(cards_of(told[5]), cards_of(told[3]))

    def test_no_rows_yet(self):
        self.assertEqual(laid("//A DD *"), ["//A DD *", "/*"])
        self.assertEqual(laid("//A DD DATA,DLM=ZZ"), ["//A DD DATA,DLM=ZZ", "ZZ"])
        self.assertEqual(laid("//A DD *", "//"), ["//A DD *", "/*"])

    def test_behind_several_cards(self):
        given = ["//A DD *,", "// " + "X" * 63 + ",", "// Y=Z"]
        self.assertEqual(laid(*given, "row"), ["//A DD *,", "// " + "X" * 63 + ",Y=Z", "row".ljust(80), "/*"])

    def test_statements_without_data(self):
        self.assertEqual(laid("//A DD X,*"), ["//A DD X,*"])
        self.assertEqual(laid("//A SET *", "/*"), ["//A SET *"])
        self.assertEqual(laid("//A SET *,DLM=ZZ"), ["//A SET *,DLM=ZZ"])
        self.assertEqual(laid("//A DD *", "row", "/*", "//B DD X", k=1), ["//B DD X"])


class NoStatement(unittest.TestCase):
    def test_no_statement(self):
        self.assertEqual(ask(cards(0), cards(1000000)), [[-5], [-5]])
        self.assertEqual(ask(feed_cards("//"), cards(1), cards(1000000))[1:], [[-5], [-5]])
        self.assertEqual(ask(feed_cards("X", "//A DD ("), cards(0))[1:], [[-5]])


class ReadAgain(unittest.TestCase):
    def is_read_again(self, *given):
        """Each statement's cards make just this statement; answers how many can't be laid."""
        fed = feed_cards(*given)
        amount = ask(fed, counts())[1][1]
        refused = 0
        for k in range(amount):
            told = cards_of(ask(fed, cards(k))[1])
            if told == CANNOT_BE_LAID:
                refused += 1
                continue
            again = feed_cards(*told)
            after = ask(again, counts(), cards(0))
            self.assertEqual(after[1], [len(told), 1, 0, len(all_of(fed, k)[4]), 0, 0])
            self.assertEqual(cards_of(after[2]), told)
            self.assertEqual(all_of(again, 0), all_of(fed, k))
        return refused

    def test_each_kind(self):
        given = ["//J JOB X,Y='A B'", "//S EXEC PGM=SORT,PARM=(1,K=(2,A(+1)))", "//A.B DD", "//P PROC X=", "// PEND X", "// SET ,X",
                 "// IF (RC>04) | !(ABEND & A.RUN) THEN", "//L ELSE", "// ENDIF", "//", "//D DD *,DLM='A '", "//", "row", "A ", "//E DD *", "1"]
        self.assertEqual(self.is_read_again(*given), 0)

    def test_all_lengths_of_a_quoted_text(self):
        refused = [self.is_read_again(*shifted("//A      SET ", f"X='{'Y ' * n}',Z=1")) for n in range(120)]
        self.assertIn(0, refused)
        refused = [self.is_read_again(*shifted("//A     SET ", f"X='{' ,' * n}Y',Z=1")) for n in range(120)]
        self.assertIn(1, refused)

    def test_all_places_of_two_quotes(self):
        for n in range(1, 120):
            given = shifted("//A      SET ", f"X='{'Y' * n}''Z'")
            refused = self.is_read_again(*given)
            # Two quotes that are cut by the cards as they were fed make another text.
            if ask(feed_cards(*given), counts())[1][1:3] == [1, 0]:
                self.assertEqual(refused, 1 if n in (59, 115) else 0, n)

    def test_all_lengths_of_items(self):
        for n in range(1, 63):
            given = ["//A SET " + "X" * n + ","] + ["// " + "Y" * m + "," for m in (n, 67, 64 - n, 5, 67 - n, 1)] + ["// K='Z Z'"]
            self.assertEqual(self.is_read_again(*given), 0)

    def test_all_lengths_of_tests(self):
        for n in range(1, 9):
            for m in range(1, 9):
                word = f"{'A' * n}.{'B' * m}.RC>04"
                given = ["//A IF " + word] + [f"// |!({word}&(ABEND|{word}))"] * 6 + ["// THEN"]
                self.assertEqual(self.is_read_again(*given), 0)


if __name__ == "__main__":
    unittest.main()
