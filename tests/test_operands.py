"""Operand texts, as item and find tell them."""

import unittest

from calls import ask, feed_cards, find, finished, item, item_of, items_told, statement, texts_of

from cardreader.operands import NoOperandText, read_operands

EMPTY = 0
WORD = 1
QUOTED = 2
INNER = 3
LIST = 4


def is_operand_text(text):
    reader = finished("//A SET " + text)
    if reader.errors == []:
        return True
    if reader.errors != [(6, 1)]:
        raise AssertionError(f"another error: {text} {reader.errors}")
    return False


def paths_told(text, *paths):
    told = ask(feed_cards("//A SET " + text), *[item(0, *path) for path in paths])
    return [item_of(answer) if len(answer) > 1 else answer for answer in told[1:]]


class Values(unittest.TestCase):
    def test_empty_values(self):
        self.assertEqual(items_told(",A"), [[EMPTY, 0, "", "", ""], [WORD, 0, "", "A", ""]])
        self.assertEqual(items_told("A=,B="), [[EMPTY, 0, "A", "", ""], [EMPTY, 0, "B", "", ""]])

    def test_words(self):
        for word in ("A", "*", "a-z", "9", "A.B.C", "ABCDEFGHIJKLMNOP", "!\"#$%&*+-./:;<>?@[\\]^_`{|}~"):
            self.assertEqual(items_told(word), [[WORD, 0, "", word, ""]])
            self.assertEqual(items_told("K=" + word), [[WORD, 0, "K", word, ""]])

    def test_each_word_sign(self):
        for byte in range(33, 127):
            sign = chr(byte)
            if sign not in "'(),=":
                self.assertEqual(items_told("A" + sign), [[WORD, 0, "", "A" + sign, ""]])
                self.assertEqual(items_told(sign), [[WORD, 0, "", sign, ""]])

    def test_words_with_an_inner_part(self):
        self.assertEqual(items_told("A(B)"), [[INNER, 0, "", "A", "B"]])
        self.assertEqual(items_told("K=A.B(+1),L=*(a)"), [[INNER, 0, "K", "A.B", "+1"], [INNER, 0, "L", "*", "a"]])

    def test_an_inner_part_has_1_to_20_signs(self):
        self.assertEqual(items_told("A(" + "B" * 20 + ")"), [[INNER, 0, "", "A", "B" * 20]])
        self.assertFalse(is_operand_text("A(" + "B" * 21 + ")"))
        self.assertFalse(is_operand_text("A()"))

    def test_inner_parts_that_are_none(self):
        for text in ("A(B,C)", "A(B=C)", "A((B))", "A('B')", "A(B", "A(B)C", "A(B)(C)", "A(B)'C'", "A(B(C))", "A(", "A(B))"):
            self.assertFalse(is_operand_text(text), text)

    def test_quoted_texts(self):
        for written, text in {"''": "", "'A'": "A", "' '": " ", "'A B'": "A B", "'(,)='": "(,)=", "''''": "'",
                              "'A''B'": "A'B", "''''''": "''", "'''A'": "'A", "'A'''": "A'"}.items():
            self.assertEqual(items_told(written), [[QUOTED, 0, "", text, ""]])
            self.assertEqual(items_told("K=" + written), [[QUOTED, 0, "K", text, ""]])

    def test_signs_beside_a_quoted_text(self):
        for text in ("'A'B", "B'A'", "'A'(B)", "'A'=B", "(A'B')", "'A''B'C", "K='A'B"):
            self.assertFalse(is_operand_text(text), text)

    def test_lists(self):
        self.assertEqual(items_told("(A)"), [[LIST, 1, "", "", ""]])
        self.assertEqual(items_told("()"), [[LIST, 1, "", "", ""]])
        self.assertEqual(items_told("(,)"), [[LIST, 2, "", "", ""]])
        self.assertEqual(items_told("K=(A,B,C=D)"), [[LIST, 3, "K", "", ""]])

    def test_lists_that_are_none(self):
        for text in ("(", ")", "(A", "A)", "(A))", "((A)", "(A)B", "(A)(B)", "(A)'B'", "(A)=B", "(=A)"):
            self.assertFalse(is_operand_text(text), text)

    def test_a_list_cut_by_a_blank(self):
        self.assertFalse(is_operand_text("(A B)"))


class Paths(unittest.TestCase):
    def test_items_of_lists(self):
        told = paths_told("A=(1,(2,B='x y')),C=D(E)", (0,), (0, 0), (0, 1), (0, 1, 0), (0, 1, 1), (1,))
        self.assertEqual(told, [
            [LIST, 2, "A", "", ""], [WORD, 0, "", "1", ""], [LIST, 2, "", "", ""], [WORD, 0, "", "2", ""],
            [QUOTED, 0, "B", "x y", ""], [INNER, 0, "C", "D", "E"],
        ])

    def test_an_empty_list_has_one_empty_item(self):
        self.assertEqual(paths_told("()", (0, 0), (0, 1)), [[EMPTY, 0, "", "", ""], [-6]])

    def test_keys_within_lists(self):
        told = paths_told("X=(A.B=(C=D,C=E),F=,)", (0, 0), (0, 0, 0), (0, 0, 1), (0, 1), (0, 2))
        self.assertEqual(told, [
            [LIST, 2, "A.B", "", ""], [WORD, 0, "C", "D", ""], [WORD, 0, "C", "E", ""], [EMPTY, 0, "F", "", ""],
            [EMPTY, 0, "", "", ""],
        ])

    def test_no_such_item(self):
        paths = ((), (3,), (1000000,), (0, 0), (1, 0), (2, 2), (2, 0, 0), (2, 1000000), (2, 0, 0, 0), (0,) * 16)
        self.assertEqual(paths_told("A,'B',(C,D)", *paths), [[-6]] * len(paths))

    def test_inner_parts_hold_no_items(self):
        self.assertEqual(paths_told("A(B)", (0, 0)), [[-6]])

    def test_six_lists_deep(self):
        text = "((((((A))))))"
        self.assertEqual(paths_told(text, (0,) * 6, (0,) * 7, (0,) * 8), [[LIST, 1, "", "", ""], [WORD, 0, "", "A", ""], [-6]])
        self.assertEqual(paths_told("K=(1,(2,(3,(4,(5,(6,L=7))))))", (0, 1, 1, 1, 1, 1, 1)), [[WORD, 0, "L", "7", ""]])

    def test_seven_lists_deep(self):
        self.assertFalse(is_operand_text("(((((((A)))))))"))
        self.assertFalse(is_operand_text("K=(1,(2,(3,(4,(5,(6,L=()))))))"))

    def test_depth_is_counted_in_one_another_only(self):
        self.assertTrue(is_operand_text("((((((A),(B)))),(((C))))),((((((D))))))"))
        self.assertTrue(is_operand_text("((((((A(B)))))))"))


class Keys(unittest.TestCase):
    def test_names_and_two_names(self):
        for key in ("A", "@", "ABCDEFGH", "A.B", "ABCDEFGH.ABCDEFGH", "$9", "#.@"):
            self.assertEqual(items_told(key + "=X"), [[WORD, 0, key, "X", ""]])

    def test_words_that_are_no_key(self):
        for key in ("", "9", "a", "ABCDEFGHI", "A.B.C", "A.", ".B", "A-B", "A.9", "*", "ABCDEFGHI.A", "A.ABCDEFGHI"):
            self.assertFalse(is_operand_text(key + "=X"), key)
            self.assertFalse(is_operand_text(f"({key}=X)"), key)

    def test_one_key_alone(self):
        for text in ("A=B=C", "A==", "A==B", "A=(B)=C", "A=B(C)=D"):
            self.assertFalse(is_operand_text(text), text)

    def test_other_values_are_no_key(self):
        for text in ("'A'=B", "(A)=B", "A(B)=C"):
            self.assertFalse(is_operand_text(text), text)


class Order(unittest.TestCase):
    def test_in_order(self):
        for text in ("A,B", ",,A=1", "A,B,C=1,D=2", "A,A", "A=1,A.B=2,B=3", "A,A=A", "(B=1,C),D=1", "X=(A=1,A=2,B)", "A="):
            self.assertEqual(texts_of(finished("//X SET " + text)), [text])

    def test_out_of_order(self):
        for text in ("A=1,B", "A=1,,B=2", "A=1,(B)", "A=1,'B'", "A=1,A=1", "A=1,B=2,A=3", "A.B=,C=,A.B="):
            self.assertEqual(finished("//X SET " + text).errors, [(7, 1)])

    def test_an_empty_item_over_two_cards_is_out_of_order(self):
        self.assertEqual(finished("//X SET A=(1),,", "// B=2").errors, [(7, 1)])


class Find(unittest.TestCase):
    def found(self, text, *keys):
        return [number for answer in ask(feed_cards("//A SET " + text), *[find(0, key) for key in keys])[1:] for number in answer]

    def test_keys(self):
        self.assertEqual(self.found("X,,A=1,B.C=2,D=", "A", "B.C", "D"), [2, 3, 4])

    def test_an_empty_key_is_an_item_without_a_key(self):
        self.assertEqual(self.found("X,,A=1", ""), [0])
        self.assertEqual(self.found(",X", ""), [0])
        self.assertEqual(self.found("A=1,B=", ""), [-6])

    def test_none(self):
        self.assertEqual(self.found("X,A=1,B.C=2", "X", "B", "C", "a", "AA", "A=", "1", "B.", "A" * 4000), [-6] * 9)

    def test_keys_of_lists_are_not_found(self):
        self.assertEqual(self.found("(A=1),B=(C=2)", "A", "C", "B", ""), [-6, -6, 1, 0])

    def test_no_items(self):
        self.assertEqual(self.found("", "", "A"), [-6, -6])

    def test_bytes_that_are_no_signs(self):
        told = ask(feed_cards("//A SET A=1"), [6, 0, 1, 0], [6, 0, 2, 65, 255], [6, 0, 1, 10])
        self.assertEqual(told[1:], [[-6], [-6], [-6]])


class Texts(unittest.TestCase):
    """Texts that no statement has when it's finished."""

    def test_commas_at_the_end(self):
        for text, amount in {"": 0, ",": 2, "A,": 2, ",,": 3, "(,),": 2}.items():
            self.assertEqual(len(read_operands([ord(sign) for sign in text])), amount)

    def test_no_operand_texts(self):
        for text in ("'", "'''", "'A", "A='", "('", "A B", " ", "A ", " A", "A= B", "(A, B)", "'A' ", "A\x7f", "A(B )"):
            with self.assertRaises(NoOperandText, msg=text):
                read_operands([ord(sign) for sign in text])


class NoItems(unittest.TestCase):
    def test_an_empty_text_has_no_items(self):
        told = ask(feed_cards("//A SET"), statement(0), item(0, 0), item(0), find(0, ""))
        self.assertEqual(told[1][3], 0)
        self.assertEqual(told[2:], [[-6], [-6], [-6]])

    def test_statements_without_items(self):
        for card in ("// IF ABEND THEN", "//A PEND X", "// ELSE X", "// ENDIF X=Y", "//"):
            told = ask(feed_cards(card), statement(0), item(0, 0), item(0), find(0, ""), find(0, "X"))
            self.assertEqual(told[1][3], 0)
            self.assertEqual(told[2:], [[-6], [-6], [-6], [-6]])

    def test_no_such_statement_comes_first(self):
        told = ask(feed_cards("//A SET X"), item(1), item(1, 9), find(1, ""), find(1000000, "A"), statement(1), statement(1000000))
        self.assertEqual(told[1:], [[-5]] * 6)


if __name__ == "__main__":
    unittest.main()
