"""row, next and label, and questions while a statement or data are in hand."""

import unittest

from calls import (
    ask, cards, cards_of, clear, counts, error, feed, feed_cards, finish, label, next_of, row, row_of, statement,
)

ALL_KINDS = ("//J JOB X", "//S EXEC X", "//D DD X", "//P PROC X", "//P PEND", "//V SET X", "// IF ABEND THEN", "// ELSE", "// ENDIF", "//")


class Row(unittest.TestCase):
    def test_rows_have_all_80_signs(self):
        given = ("row", "", "x" * 80, "   y", "/", "'")
        told = ask(feed_cards("//A DD *", *given, "/*"), *[row(0, r) for r in range(len(given))])
        self.assertEqual([row_of(answer) for answer in told[1:]], [[0, card.ljust(80)] for card in given])

    def test_the_form_of_the_answer(self):
        told = ask(feed_cards("//A DD *", "ab", "/*"), row(0, 0))
        self.assertEqual(told[1], [0, 80, 97, 98] + [32] * 78)

    def test_each_statement_has_its_own_rows(self):
        told = ask(feed_cards("//A DD *", "1", "2", "//B DD X", "//C DD DATA", "3", "/*"),
                   row(0, 1), row(2, 0), row(0, 0))
        self.assertEqual([row_of(answer)[1].rstrip() for answer in told[1:]], ["2", "3", "1"])

    def test_no_such_row(self):
        told = ask(feed_cards("//A DD *", "1", "/*", "//B DD X", "//C DD *", "/*"),
                   row(0, 1), row(0, 1000000), row(1, 0), row(2, 0))
        self.assertEqual(told[1:], [[-6]] * 4)

    def test_no_such_statement_comes_first(self):
        told = ask(feed_cards("//A DD *", "1", "/*"), row(1, 0), row(1, 9), row(1000000, 1000000))
        self.assertEqual(told[1:], [[-5]] * 3)
        self.assertEqual(ask(row(0, 0)), [[-5]])

    def test_an_end_card_is_no_row(self):
        told = ask(feed_cards("//A DD *,DLM=ZZ", "/*", "ZZ", "ZZ"), row(0, 0), row(0, 1))
        self.assertEqual(row_of(told[1]), [0, "/*".ljust(80)])
        self.assertEqual(told[2], [-6])


class Next(unittest.TestCase):
    def test_each_kind(self):
        told = ask(feed_cards(*ALL_KINDS), *[next_of(0, kind) for kind in range(1, 11)])
        self.assertEqual(told[1:], [[place] for place in range(10)])

    def test_the_least_place_from_k_on(self):
        given = feed_cards("//A DD X", "//B EXEC X", "//C DD X", "//D DD X", "//")
        told = ask(given, next_of(0, 3), next_of(1, 3), next_of(2, 3), next_of(3, 3), next_of(0, 2), next_of(1, 2), next_of(4, 10))
        self.assertEqual(told[1:], [[0], [2], [2], [3], [1], [1], [4]])

    def test_it_stands_before_k_only(self):
        given = feed_cards("//A DD X", "//B EXEC X", "//")
        self.assertEqual(ask(given, next_of(1, 3), next_of(2, 2), next_of(3, 10))[1:], [[-5]] * 3)

    def test_k_is_past_the_last_statement(self):
        told = ask(feed_cards("//A DD X"), next_of(1, 3), next_of(2, 3), next_of(1000000, 3))
        self.assertEqual(told[1:], [[-5]] * 3)

    def test_no_such_kind(self):
        told = ask(feed_cards(*ALL_KINDS), next_of(0, 0), next_of(0, 11), next_of(0, 1000000))
        self.assertEqual(told[1:], [[-5]] * 3)

    def test_a_new_reader_has_none(self):
        self.assertEqual(ask(next_of(0, 3), next_of(0, 0)), [[-5], [-5]])

    def test_errors_and_comments_have_no_place(self):
        self.assertEqual(ask(feed_cards("//*", "X", "//A DD (", "//B DD X"), next_of(0, 3), next_of(1, 3))[1:], [[0], [-5]])


class Label(unittest.TestCase):
    def test_the_least_place_from_k_on(self):
        given = feed_cards("//A DD X", "//B EXEC X", "//A SET X", "//A.B DD X")
        told = ask(given, label(0, "A"), label(1, "A"), label(2, "A"), label(0, "B"), label(1, "B"), label(0, "A.B"), label(3, "A.B"))
        self.assertEqual(told[1:], [[0], [2], [2], [1], [1], [3], [3]])

    def test_an_empty_label(self):
        given = feed_cards("//A DD X", "// DD X", "//B DD X", "//", "// ELSE")
        self.assertEqual(ask(given, *[label(k, "") for k in range(6)])[1:], [[1], [1], [3], [3], [4], [-5]])

    def test_it_stands_before_k_only(self):
        given = feed_cards("//A DD X", "//B EXEC X", "//C DD X")
        self.assertEqual(ask(given, label(1, "A"), label(2, "B"), label(3, "C"))[1:], [[-5]] * 3)

    def test_k_is_past_the_last_statement(self):
        self.assertEqual(ask(feed_cards("//A DD X"), label(1, "A"), label(2, "A"), label(1000000, "A"))[1:], [[-5]] * 3)

    def test_no_such_label(self):
        given = feed_cards("//AB.CD DD X", "//AB EXEC X")
        for text in ("A", "CD", "AB.", "AB.C", "ab", "ABC", "", " AB", "AB ", "X" * 4000, "\n", "\x00", "\xff"):
            self.assertEqual(ask(given, label(0, text))[1], [-5])

    def test_a_new_reader_has_none(self):
        self.assertEqual(ask(label(0, ""), label(0, "A")), [[-5], [-5]])

    def test_the_form_of_the_call(self):
        told = ask(feed_cards("//A1 DD X"), [13, 0, 2, 65, 49], [13, 0, 0], counts())
        self.assertEqual(told[1:], [[0], [-5], [1, 1, 0, 0, 0, 0]])


class AtAnyTime(unittest.TestCase):
    def test_a_statement_in_hand_is_not_among_the_statements(self):
        questions = (row(0, 0), cards(0), next_of(0, 3), label(0, "A"), error(0))
        told = ask(feed_cards("//A DD X,"), *questions, feed_cards("// Y"), *questions)
        self.assertEqual(told[1:6], [[-5]] * 5)
        self.assertEqual((told[7], cards_of(told[8]), told[9:]), ([-6], ["//A DD X,Y"], [[0], [0], [-5]]))

    def test_questions_leave_a_statement_in_hand_as_it_is(self):
        told = ask(feed_cards("//A DD '"), cards(0), [10, 1, 65], [11, 1, 65], feed_cards("//" + " " * 13 + "X'"), cards(0))
        self.assertEqual(cards_of(told[-1]), ["//A DD '" + " " * 63, "//" + " " * 13 + "X'"])

    def test_rows_read_so_far_are_told(self):
        told = ask(feed("//A DD *\n1\n2"), row(0, 0), row(0, 1), next_of(0, 3), label(0, "A"), feed("\n"), row(0, 1))
        self.assertEqual(row_of(told[1]), [0, "1".ljust(80)])
        self.assertEqual(told[2:5], [[-6], [0], [0]])
        self.assertEqual(row_of(told[6]), [0, "2".ljust(80)])

    def test_behind_finish(self):
        told = ask(feed_cards("X", "//A DD *", "1"), finish(), row(0, 0), error(0), cards(0), next_of(0, 3), label(0, "A"))
        self.assertEqual(row_of(told[2]), [0, "1".ljust(80)])
        self.assertEqual(told[3], [1, 1])
        self.assertEqual(cards_of(told[4]), ["//A DD *", "1".ljust(80), "/*"])
        self.assertEqual(told[5:], [[0], [0]])

    def test_behind_clear(self):
        told = ask(feed_cards("X", "//A DD *", "1"), clear(), row(0, 0), error(0), cards(0), next_of(0, 3), label(0, "A"))
        self.assertEqual(told[2:], [[-5]] * 5)

    def test_questions_change_nothing(self):
        given = feed("X\n//A DD *\n1\n2")
        questions = [row(0, 0), row(0, 9), row(9, 0), error(0), error(9), cards(0), cards(9), next_of(0, 3), next_of(0, 4),
                     label(0, "A"), label(0, "B"), [10, 1, 65], [10, 1, 40], [11, 1, 65], [11, 1, 9], statement(0), counts()]
        told = ask(given, *questions, *questions)
        self.assertEqual(told[1:18], told[18:])


if __name__ == "__main__":
    unittest.main()
