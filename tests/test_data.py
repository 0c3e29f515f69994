"""Data in the stream: rows, end signs, questions while they're in hand, errors 8 and 9."""

import unittest

from calls import ask, counts, feed, feed_cards, find, finish, finished, item, read, statement, statement_of, texts_of

PLAIN = 0
IN_DATA = 2


def rows_of(kept):
    return ["".join(chr(byte) for byte in row) for row in kept.rows]


class Rows(unittest.TestCase):
    def test_one_row(self):
        told = ask(feed_cards("//A DD *", "row", "/*"), statement(0), counts())
        self.assertEqual(statement_of(told[1]), [3, 1, 1, 1, 1, "A", "*"])
        self.assertEqual(told[2], [3, 1, 0, 1, PLAIN, 0])

    def test_a_row_has_80_signs(self):
        cards = ("row", "", "x" * 80, " y", "/ *", "*/", "/")
        reader = read("//A DD *", *cards)
        self.assertEqual(rows_of(reader.statements[0]), [card.ljust(80) for card in cards])

    def test_rows_of_all_statements_are_counted_together(self):
        told = ask(
            feed_cards("//A DD *", "1", "2", "/*", "//", "//B DD DATA", "//", "/*", "//C DD *"),
            counts(), statement(0), statement(2), statement(3),
        )
        self.assertEqual(told[1], [9, 4, 0, 3, IN_DATA, 0])
        self.assertEqual([statement_of(answer)[4] for answer in told[2:]], [2, 1, 0])

    def test_data_do_not_count_for_last(self):
        told = ask(feed_cards("//A DD *,", "// X=Y", "row", "row", "/*"), statement(0))
        self.assertEqual(statement_of(told[1]), [3, 1, 2, 2, 2, "A", "*,X=Y"])

    def test_no_rows(self):
        self.assertEqual(ask(feed_cards("//A DD *", "/*"), counts())[1], [2, 1, 0, 0, PLAIN, 0])


class Awaiting(unittest.TestCase):
    def test_what_awaits_data(self):
        for text in ("*", "DATA", "*,X=Y", "DATA,X", "*,", "*,,Z"):
            cards = ["//A DD " + text] + (["// X=1"] if text.endswith(",") else [])
            self.assertEqual(read(*cards).mode, IN_DATA)

    def test_what_does_not(self):
        for text in ("", "X", "X,*", ",*", "'*'", "'DATA'", "*(A)", "DATA(A)", "(*)", "X=*", "DATA=DATA", "data", "**", "DATA1", "()"):
            self.assertEqual(read("//A DD " + text).mode, PLAIN)

    def test_only_a_dd_awaits_data(self):
        for operation in ("JOB", "EXEC", "PROC", "SET"):
            reader = read(f"//A {operation} *", f"//B {operation} DATA")
            self.assertEqual((reader.mode, len(reader.statements)), (PLAIN, 2))


class OpenToSlashes(unittest.TestCase):
    def test_a_new_statement_ends_data_behind_a_star(self):
        told = ask(feed_cards("//A DD *", "row", "//B DD X,", "// Y"), counts(), statement(0), statement(1))
        self.assertEqual(told[1], [4, 2, 0, 1, PLAIN, 0])
        self.assertEqual(statement_of(told[2])[4], 1)
        self.assertEqual(statement_of(told[3]), [3, 3, 4, 2, 0, "B", "X,Y"])

    def test_the_first_item_alone_says_if_slashes_end_them(self):
        for text, row_count in {"*,X=Y": 0, "*,DATA": 0, "*,*": 0, "DATA,*": 1, "DATA,X=*": 1}.items():
            self.assertEqual(ask(feed_cards("//A DD " + text, "//*"), counts())[1][3], row_count)

    def test_a_comment_ends_them_too(self):
        told = ask(feed_cards("//A DD *", "row", "//* no row", "x"), counts())
        self.assertEqual(told[1], [4, 1, 1, 1, PLAIN, 0])

    def test_a_null_statement_ends_them_too(self):
        self.assertEqual(ask(feed_cards("//A DD *", "row", "//"), counts())[1], [3, 2, 0, 1, PLAIN, 0])

    def test_a_wrong_card_with_slashes_ends_them_too(self):
        reader = read("//A DD *", "row", "//9 DD")
        self.assertEqual((reader.errors, reader.mode), ([(2, 3)], PLAIN))

    def test_a_new_statement_may_await_data_itself(self):
        told = ask(feed_cards("//A DD *", "1", "//B DD *", "2", "3"), statement(0), statement(1), counts())
        self.assertEqual([answer[4] for answer in told[1:3]], [1, 2])
        self.assertEqual(told[3], [5, 2, 0, 3, IN_DATA, 0])


class NotOpenToSlashes(unittest.TestCase):
    def test_slashes_are_rows_behind_data(self):
        told = ask(feed_cards("//A DD DATA", "//B DD X", "//*", "//", "/*"), counts())
        self.assertEqual(told[1], [5, 1, 0, 3, PLAIN, 0])

    def test_slashes_are_rows_behind_a_star_with_an_end_sign(self):
        told = ask(feed_cards("//A DD *,DLM=ZZ", "//B DD X", "//*", "/*", "ZZ"), counts())
        self.assertEqual(told[1], [5, 1, 0, 3, PLAIN, 0])

    def test_slashes_are_rows_behind_data_with_an_end_sign(self):
        told = ask(feed_cards("//A DD DATA,DLM=ZZ", "//B DD X", "/*", "ZZ", "//"), counts())
        self.assertEqual(told[1], [5, 2, 0, 2, PLAIN, 0])


class EndSign(unittest.TestCase):
    def test_the_end_card_does_nothing_else(self):
        for card in ("/*", "/* x", "/*//"):
            self.assertEqual(ask(feed_cards("//A DD *", card), counts())[1], [2, 1, 0, 0, PLAIN, 0])

    def test_behind_the_end_cards_are_plain(self):
        self.assertEqual(finished("//A DD *", "/*", "x", "/*").errors, [(1, 3)])

    def test_words_of_two_signs(self):
        for mark in ("ZZ", "/*", "//", "--", "9$", "**", "a."):
            reader = read(f"//A DD *,DLM={mark}", "row", f"{mark} X", "/*")
            self.assertEqual((len(reader.statements[0].rows), reader.mode, reader.errors), (1, PLAIN, []))

    def test_quoted_texts_of_two_signs(self):
        marks = {"'ZZ'": "ZZ", "'  '": "", "'A '": "A", "' B'": " B", "''''''": "''", "'''A'": "'A", "'A'''": "A'",
                 "'(='": "(=", "',)'": ",)"}
        for written, mark in marks.items():
            reader = read(f"//A DD DATA,DLM={written}", "row", "//", mark, "//")
            self.assertEqual((len(reader.statements[0].rows), reader.mode), (2, PLAIN))
            self.assertEqual((len(reader.statements), reader.errors), (2, []))

    def test_slashes_as_end_sign_do_nothing_else(self):
        told = ask(feed_cards("//A DD *,DLM=//", "/*", "//B DD X", "//C DD Y"), counts(), statement(1))
        self.assertEqual(told[1], [4, 2, 0, 1, PLAIN, 0])
        self.assertEqual(statement_of(told[2])[5], "C")

    def test_the_end_sign_stands_in_columns_1_and_2(self):
        self.assertEqual(ask(feed_cards("//A DD *,DLM=ZZ", " ZZ", "Z", "zz"), counts())[1], [4, 1, 0, 3, IN_DATA, 0])

    def test_each_statement_has_its_own_end_sign(self):
        reader = finished("//A DD *,DLM=ZZ", "ZZ", "//B DD *", "ZZ", "/*", "//C DD DATA", "ZZ", "/*")
        self.assertEqual(([len(kept.rows) for kept in reader.statements], reader.errors), ([0, 1, 1], []))


class WrongEndSign(unittest.TestCase):
    def test_values_that_are_no_end_sign(self):
        for value in ("", "Z", "ZZZ", "'Z'", "'ZZZ'", "''", "''''", "(ZZ)", "ZZ(A)", "(Z,Z)"):
            for word in ("*", "DATA"):
                reader = finished("//*", f"//A DD {word},DLM={value}", "/*")
                self.assertEqual((reader.errors, reader.statements), ([(8, 2)], []))

    def test_an_end_sign_without_data(self):
        for text in ("DLM=ZZ", "X,DLM=ZZ", "X,*,DLM=ZZ", "'*',DLM='ZZ'", "X=DATA,DLM=ZZ"):
            self.assertEqual(finished("//A DD " + text).errors, [(8, 1)])

    def test_error_8_comes_behind_6_and_7(self):
        self.assertEqual(finished("//A DD X,DLM=Z,(").errors, [(6, 1)])
        self.assertEqual(finished("//A DD X,DLM=Z,DLM=Z").errors, [(7, 1)])
        self.assertEqual(finished("//A DD DLM=ZZ,*").errors, [(7, 1)])

    def test_in_a_list_the_key_is_like_any_other(self):
        for text in ("X,Y=(DLM=Z)", "(DLM=ZZ)", "X=(DLM=1,DLM=2)"):
            self.assertEqual(texts_of(finished("//A DD " + text)), [text])

    def test_in_other_statements_the_key_is_like_any_other(self):
        for operation in ("JOB", "EXEC", "PROC", "SET"):
            for text in ("X,DLM=Z", "*,DLM=", "DLM=(A,B)"):
                self.assertEqual(texts_of(finished(f"//A {operation} {text}")), [text])

    def test_keys_that_only_look_like_it(self):
        for text in ("X.DLM=Z", "DLM.X=Z", "DLMX=Z", "DL=Z", "X,DLM"):
            self.assertEqual(texts_of(finished("//A DD " + text)), [text])


class InHand(unittest.TestCase):
    def test_questions_while_data_are_in_hand(self):
        told = ask(
            feed("//A DD *,X=(Y)\n1\n2\n3"), counts(), statement(0), item(0, 1, 0), find(0, "X"), statement(1),
            feed("\n"), counts(), statement(0), feed("/*\n"), counts(),
        )
        self.assertEqual(told[1], [3, 1, 0, 2, IN_DATA, 1])
        self.assertEqual(statement_of(told[2]), [3, 1, 1, 2, 2, "A", "*,X=(Y)"])
        self.assertEqual(told[3], [1, 0, 0, 1, 89, 0])
        self.assertEqual(told[4:6], [[1], [-5]])
        self.assertEqual(told[7], [4, 1, 0, 3, IN_DATA, 0])
        self.assertEqual(statement_of(told[8])[4], 3)
        self.assertEqual(told[10], [5, 1, 0, 3, PLAIN, 0])


class FinishInData(unittest.TestCase):
    def test_data_open_to_slashes_need_no_end(self):
        told = ask(feed_cards("//A DD *", "row"), finish(), counts(), statement(0))
        self.assertEqual(told[1:3], [[1], [2, 1, 0, 1, 3, 0]])
        self.assertEqual(statement_of(told[3])[4], 1)

    def test_other_data_need_their_end_sign(self):
        for text in ("DATA", "*,DLM=ZZ", "DATA,DLM=ZZ", "DATA,DLM=/*"):
            told = ask(feed_cards("//*", "//A DD " + text, "row", "row"), finish(), counts(), statement(0))
            self.assertEqual(told[1:3], [[1], [4, 1, 1, 2, 3, 0]])
            self.assertEqual(statement_of(told[3])[4], 2)

    def test_error_9_is_told_of_the_first_card(self):
        self.assertEqual(finished("//*", "//A DD DATA,", "// X", "row").errors, [(9, 2)])

    def test_the_statement_kept_last_says_if_an_end_is_needed(self):
        self.assertEqual(finished("//A DD DATA", "/*", "//B DD *", "row").errors, [])
        self.assertEqual(finished("//A DD *", "/*", "//B DD DATA", "row").errors, [(9, 3)])

    def test_ended_data_are_no_error(self):
        self.assertEqual(finished("//A DD DATA", "row", "/*").errors, [])
        self.assertEqual(finished("//A DD *,DLM=ZZ", "row", "ZZ", "//").errors, [])


if __name__ == "__main__":
    unittest.main()
