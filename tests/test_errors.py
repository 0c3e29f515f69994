"""error: each error's number and its card, in the order in which they're noted."""

import unittest

from calls import ask, clear, counts, error, feed, feed_cards, finish, row, row_of, statement, statement_of


def errors_told(*given, finishing=True):
    """What error tells of each error behind these cards."""
    calls = [feed_cards(*given)] + ([finish()] if finishing else [])
    amount = ask(*calls, counts())[-1][2]
    told = ask(*calls, *[error(k) for k in range(amount + 1)])[len(calls):]
    if told[-1] != [-5]:
        raise AssertionError(f"more errors than counts tells: {told}")
    return told[:-1]


class EachError(unittest.TestCase):
    def test_error_1_has_the_card_itself(self):
        for card in ("X", "", " //A DD", "/A"):
            self.assertEqual(errors_told("//*", "//", card, "//"), [[1, 3]])

    def test_error_2(self):
        for card in ("//9 DD X", "//A.B.C DD", "// JOB", "//A.B EXEC X", "//A.B IF ABEND THEN", "//ABCDEFGHI WHAT"):
            self.assertEqual(errors_told("//*", card), [[2, 2]])

    def test_error_3(self):
        for card in ("//A", "//A WHAT", "// dd", "//A.B OUTPUT", "//A   "):
            self.assertEqual(errors_told("//*", card), [[3, 2]])

    def test_error_4_has_the_card_on_which_the_statement_began(self):
        self.assertEqual(errors_told("//*", "//A DD X,", "// Y,", "//* Z", "//B DD"), [[4, 2]])
        self.assertEqual(errors_told("//*", "//A DD '", "//", "//B DD"), [[4, 2]])
        self.assertEqual(errors_told("//*", "//A IF ABEND", "// ENDIF", "//B DD"), [[4, 2]])

    def test_error_4_of_finish(self):
        self.assertEqual(errors_told("//A DD DSN=X,"), [[4, 1]])
        self.assertEqual(errors_told("//*", "//A DD X,", "// Y,"), [[4, 2]])
        self.assertEqual(errors_told("//A DD DSN=X,", finishing=False), [])

    def test_error_5_of_a_long_text(self):
        given = ["//*", "//A SET X,"] + ["// " + "Y" * 67 + ","] * 29
        self.assertEqual(errors_told(*given, "// " + "Z" * 26), [])
        self.assertEqual(errors_told(*given, "// " + "Z" * 27), [[5, 2]])

    def test_error_5_of_a_long_plain_form(self):
        given = ["//*", "//A IF ABEND"] + ["// " + "|ABEND" * 11] * 21
        self.assertEqual(errors_told(*given[:-1], "// THEN"), [])
        self.assertEqual(errors_told(*given, "// THEN"), [[5, 2]])

    def test_error_6(self):
        for given in (["//A DD ("], ["//A SET X,", "// Y=Z=W"], ["//A IF X", "// THEN"], ["// IF THEN"], ["//A EXEC X'Y'"]):
            self.assertEqual(errors_told("//*", *given), [[6, 2]])

    def test_error_7(self):
        for given in (["//A DD X=1,Y"], ["//A SET X=1,", "// X=1"], ["//A JOB X=(1),,", "// Y=2"]):
            self.assertEqual(errors_told("//*", *given), [[7, 2]])

    def test_error_8(self):
        for given in (["//A DD X,DLM=ZZ"], ["//A DD *,", "// DLM=Z"], ["//A DD DATA,DLM='ZZZ'"], ["//A DD DLM=ZZ"]):
            self.assertEqual(errors_told("//*", *given), [[8, 2]])

    def test_error_9_has_the_first_card_of_the_statement(self):
        self.assertEqual(errors_told("//*", "//A DD DATA,", "// X", "row", "row"), [[9, 2]])
        self.assertEqual(errors_told("//A DD *,DLM=ZZ", "row", "/*"), [[9, 1]])
        self.assertEqual(errors_told("//A DD DATA", finishing=False), [])
        self.assertEqual(errors_told("//A DD *", "row"), [])

    def test_one_statement_has_one_error(self):
        self.assertEqual(errors_told("//9 WHAT ("), [[2, 1]])
        self.assertEqual(errors_told("//A WHAT ("), [[3, 1]])
        self.assertEqual(errors_told("//A DD X=1,Y,("), [[6, 1]])
        self.assertEqual(errors_told("//A DD X=1,DLM=Z,Y"), [[7, 1]])


class Order(unittest.TestCase):
    def test_several_errors_stand_as_they_are_noted(self):
        given = ("X", "//9 DD", "//A DD (", "Y", "//A DD Z", "//A WHAT", "//A SET A=,B", "//A DD X,DLM=ZZ", "//A DD DATA")
        self.assertEqual(errors_told(*given), [[1, 1], [2, 2], [6, 3], [1, 4], [3, 6], [7, 7], [8, 8], [9, 9]])

    def test_a_dropped_statement_comes_before_the_error_of_the_card_that_drops_it(self):
        self.assertEqual(errors_told("//*", "//A DD X,", "//*", "Y"), [[4, 2], [1, 4]])
        self.assertEqual(errors_told("//A DD X,", "//9 DD Y,", "// Z"), [[4, 1], [2, 2], [3, 3]])
        self.assertEqual(errors_told("//A DD X,", "//B DD Y,", "//C DD (", "//D DD Z,"), [[4, 1], [4, 2], [6, 3], [4, 4]])

    def test_the_card_that_drops_a_statement_is_read_as_in_plain_mode(self):
        told = ask(feed_cards("//A DD X,", "//B DD *", "row", "//C DD Y,", "// "), error(0), error(1), error(2),
                   statement(0), statement(1), statement(2), row(0, 0))
        self.assertEqual(told[1:4], [[4, 1], [4, 4], [-5]])
        self.assertEqual(statement_of(told[4]), [3, 2, 2, 1, 1, "B", "*"])
        self.assertEqual(statement_of(told[5]), [10, 5, 5, 0, 0, "", ""])
        self.assertEqual(told[6], [-5])
        self.assertEqual(row_of(told[7]), [0, "row".ljust(80)])

    def test_cards_behind_an_error_are_read_as_in_plain_mode(self):
        self.assertEqual(errors_told("//A DD (", "// X,", "// Y)"), [[6, 1], [3, 2], [3, 3]])
        self.assertEqual(errors_told("//A DD X,DLM=ZZ", "row", "ZZ"), [[8, 1], [1, 2], [1, 3]])
        self.assertEqual(errors_told("//A DD '", *["//"] * 35, "X'"), [[5, 1], [1, 37]])

    def test_an_error_of_the_card_that_finish_reads(self):
        told = ask(feed("//A DD X,\nY"), error(0), finish(), error(0), error(1), error(2))
        self.assertEqual(told[1:], [[-5], [0], [4, 1], [1, 2], [-5]])
        told = ask(feed("//*\n//A DD X,"), finish(), error(0), error(1))
        self.assertEqual(told[1:], [[0], [4, 2], [-5]])
        told = ask(feed("//*\n//A DD DATA"), finish(), error(0), error(1))
        self.assertEqual(told[1:], [[1], [9, 2], [-5]])


class NoError(unittest.TestCase):
    def test_a_new_reader_has_none(self):
        self.assertEqual(ask(error(0), error(1), error(1000000)), [[-5]] * 3)

    def test_statements_are_no_errors(self):
        self.assertEqual(ask(feed_cards("//A DD X", "X"), error(0), error(1), error(1000000))[1:], [[1, 2], [-5], [-5]])

    def test_clear_forgets_them(self):
        self.assertEqual(ask(feed_cards("X"), error(0), clear(), error(0), feed_cards("//", "Y"), error(0))[1:],
                         [[1, 1], [0], [-5], [2], [1, 2]])

    def test_a_refused_feed_notes_none(self):
        told = ask(feed("X\n" + "Y" * 81), feed("X\n\t"), error(0))
        self.assertEqual(told, [[-1], [-2], [-5]])


if __name__ == "__main__":
    unittest.main()
