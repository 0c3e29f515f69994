"""What a card does in plain mode: comments, statements of one card, errors 1 to 3."""

import unittest

from calls import ask, counts, feed_cards, finished, read, statement, statement_of, texts_of

NAMES = ("A", "@", "#", "$", "Z9", "ABCDEFGH", "A0123456", "$#@")
NO_NAMES = ("9", "a", "ABCDEFGHI", "A-B", "A.", ".A", "A..B", "A.B.C", "ABCDEFGHI.A", "A.ABCDEFGHI", "A.9", "9.A", "'", "[", "A,B",
            "A/B", "A:B", "A[", "A`", "A!", "A%", "A?", "Az", "A{", "A/.B", "A.B:")


def only_statement(*cards):
    told = ask(feed_cards(*cards), counts(), statement(0))
    if told[1][1:3] != [1, 0]:
        raise AssertionError(f"not one statement without errors: {told[1]}")
    return statement_of(told[2])


class NothingDone(unittest.TestCase):
    def test_comments_and_end_cards_do_nothing(self):
        for card in ("//*", "//* A DD X", "//*A", "/*", "/* x", "/*//", "//*" + "x" * 77):
            self.assertEqual(ask(feed_cards(card), counts())[1], [1, 0, 0, 0, 0, 0])


class Null(unittest.TestCase):
    def test_a_null_statement(self):
        for card in ("//", "// ", "//" + " " * 69, "//" + " " * 78):
            self.assertEqual(only_statement(card), [10, 1, 1, 0, 0, "", ""])

    def test_columns_behind_71_are_not_looked_at(self):
        self.assertEqual(only_statement("//" + " " * 69 + "XXXXXXXXX"), [10, 1, 1, 0, 0, "", ""])

    def test_column_71_is_looked_at(self):
        self.assertEqual(finished("//" + " " * 68 + "X").errors, [(3, 1)])

    def test_a_null_statement_tells_its_card(self):
        told = ask(feed_cards("//*", "/*", "//"), statement(0))
        self.assertEqual(statement_of(told[1]), [10, 3, 3, 0, 0, "", ""])


class Operations(unittest.TestCase):
    def test_each_operation_has_its_kind(self):
        kinds = {"JOB": 1, "EXEC": 2, "DD": 3, "PROC": 4, "SET": 6}
        for operation, kind in kinds.items():
            self.assertEqual(only_statement(f"//A {operation} X,Y=Z"), [kind, 1, 1, 2, 0, "A", "X,Y=Z"])

    def test_an_if_has_kind_7(self):
        self.assertEqual(only_statement("//A IF ABEND THEN"), [7, 1, 1, 0, 0, "A", "ABEND"])

    def test_operations_without_a_text(self):
        for operation, kind in {"PEND": 5, "ELSE": 8, "ENDIF": 9}.items():
            for behind in ("", " ", " X=", " X,", " '", " (", " ABEND THEN"):
                self.assertEqual(only_statement(f"//A {operation}{behind}"), [kind, 1, 1, 0, 0, "A", ""])

    def test_an_empty_operand_part(self):
        for operation, kind in {"JOB": 1, "EXEC": 2, "DD": 3, "PROC": 4, "SET": 6}.items():
            self.assertEqual(only_statement(f"//A {operation}"), [kind, 1, 1, 0, 0, "A", ""])

    def test_other_operations(self):
        for operation in ("", "X", "dd", "DDD", "D", "JOBS", "NULL", "DD,", "'", "OUTPUT", "THEN"):
            self.assertEqual(finished("//*", f"//A {operation}").errors, [(3, 2)])
            self.assertEqual(finished(f"//A {operation}").statements, [])

    def test_blanks_between_label_operation_and_operands_are_passed_over(self):
        self.assertEqual(only_statement("//A     DD      X     Y"), [3, 1, 1, 1, 0, "A", "X"])

    def test_an_operation_may_reach_to_column_71(self):
        self.assertEqual(only_statement("//A" + " " * 66 + "DD" + "X=1"), [3, 1, 1, 0, 0, "A", ""])
        self.assertEqual(finished("//A" + " " * 67 + "DD").errors, [(3, 1)])

    def test_operands_reach_to_column_71(self):
        self.assertEqual(only_statement("//A DD " + "X" * 64 + "YYYYYYYYY"), [3, 1, 1, 1, 0, "A", "X" * 64])


class Labels(unittest.TestCase):
    def test_names(self):
        for name in NAMES:
            for operation in ("JOB", "EXEC", "DD", "PROC", "PEND", "SET", "ELSE", "ENDIF"):
                self.assertEqual(only_statement(f"//{name} {operation}")[5], name)
            self.assertEqual(only_statement(f"//{name} IF ABEND THEN")[5], name)

    def test_two_names_label_a_dd(self):
        for name in NAMES:
            self.assertEqual(only_statement(f"//{name}.{name} DD")[5], f"{name}.{name}")

    def test_two_names_label_nothing_else(self):
        for operation in ("JOB", "EXEC", "PROC", "PEND", "SET", "IF", "ELSE", "ENDIF"):
            self.assertEqual(finished(f"//A.B {operation} X").errors, [(2, 1)])

    def test_an_empty_label(self):
        for operation in ("EXEC", "DD", "PROC", "PEND", "SET", "ELSE", "ENDIF"):
            self.assertEqual(only_statement(f"// {operation}")[5], "")
            self.assertEqual(only_statement(f"//    {operation}")[5], "")
        self.assertEqual(only_statement("// IF ABEND THEN")[5], "")

    def test_a_job_has_a_label(self):
        self.assertEqual(finished("// JOB X").errors, [(2, 1)])
        self.assertEqual(finished("//    JOB").errors, [(2, 1)])

    def test_other_labels(self):
        for label in NO_NAMES:
            for operation in ("DD", "EXEC", "PEND", "JOB"):
                reader = finished(f"//{label} {operation}")
                self.assertEqual((reader.errors, reader.statements), ([(2, 1)], []))

    def test_a_label_may_reach_to_column_71(self):
        self.assertEqual(finished("//" + "A" * 69 + " DD").errors, [(2, 1)])

    def test_a_wrong_label_comes_before_a_wrong_operation(self):
        self.assertEqual(finished("//9 X").errors, [(2, 1)])
        self.assertEqual(finished("//9").errors, [(2, 1)])

    def test_a_wrong_operation_comes_before_a_label_that_does_not_go_with_it(self):
        self.assertEqual(finished("//A.B X").errors, [(3, 1)])
        self.assertEqual(finished("//A.B").errors, [(3, 1)])


class OtherCards(unittest.TestCase):
    def test_any_other_card_is_error_1(self):
        for card in ("X", "", " //A DD", "/", "/ /", "*/", " /*", "A" * 80, "/A DD X"):
            reader = read("//", card, "//")
            self.assertEqual((reader.errors, len(reader.statements), reader.mode), ([(1, 2)], 2, 0))

    def test_each_wrong_card_is_noted(self):
        reader = finished("X", "//9 DD", "//A DD (", "Y", "//A DD Z", "//A WHAT")
        self.assertEqual(reader.errors, [(1, 1), (2, 2), (6, 3), (1, 4), (3, 6)])
        self.assertEqual(texts_of(reader), ["Z"])

    def test_counts_tells_the_number_of_errors(self):
        told = ask(feed_cards("X", "//9 DD", "//A WHAT", "// JOB"), counts())
        self.assertEqual(told[1], [4, 0, 4, 0, 0, 0])

    def test_behind_errors_1_to_3_the_mode_is_plain(self):
        for card in ("X", "//9 DD X,", "//A WHAT X,", "// JOB X,", "//A.B EXEC X,"):
            self.assertEqual(ask(feed_cards(card), counts())[1], [1, 0, 1, 0, 0, 0])


if __name__ == "__main__":
    unittest.main()
