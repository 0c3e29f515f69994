"""cardreader.batch.answers: the form of calls and answers, and that it keeps and changes nothing."""

import unittest

from calls import (
    ask, cards, cards_of, clear, condition, counts, error, feed, feed_cards, find, finish, item, item_of, label, next_of, operands,
    row, row_of, statement, statement_of,
)

from cardreader.batch import UnknownCall, answers

ALL_CALLS = (
    feed_cards("//A DD *,DLM='Q ',K=(1,L='it''s',M=N(O))", "row", "Q", "x") + feed("//B IF RC=04") + counts() + statement(0)
    + item(0, 2, 1) + item(0, 2, 2) + item(0, 9) + find(0, "K") + find(0, "") + find(0, "Z") + statement(1)
    + feed(" THEN\n//C DD DATA\nrow") + feed("\t") + finish() + finish() + statement(1) + counts()
    + row(0, 0) + row(0, 9) + error(0) + error(1) + error(2) + cards(0) + cards(9) + operands("A,B=(C)") + operands("(")
    + condition("!RC>04") + condition("(") + next_of(0, 7) + next_of(2, 7) + label(0, "C") + label(0, "Z")
    + clear() + counts() + row(0, 0) + error(0) + cards(0) + next_of(0, 3) + label(0, "A")
)


class Untouchable(list):
    """A list that can't be changed, not for a while either."""

    def refuse(self, *given):
        raise AssertionError("the list handed in was changed")

    __setitem__ = __delitem__ = __iadd__ = __imul__ = refuse
    append = clear = extend = insert = pop = remove = reverse = sort = refuse


class Form(unittest.TestCase):
    def test_each_call_alone(self):
        self.assertEqual(answers([0]), [1, 0])
        self.assertEqual(answers([1, 0]), [1, 0])
        self.assertEqual(answers([1, 3, 47, 47, 10]), [1, 1])
        self.assertEqual(answers([2]), [1, 0])
        self.assertEqual(answers([3]), [6, 0, 0, 0, 0, 0, 0])
        self.assertEqual(answers([4, 0]), [1, -5])
        self.assertEqual(answers([5, 0, 0]), [1, -5])
        self.assertEqual(answers([5, 0, 2, 7, 8]), [1, -5])
        self.assertEqual(answers([6, 0, 0]), [1, -5])
        self.assertEqual(answers([6, 0, 2, 65, 66]), [1, -5])
        self.assertEqual(answers([7, 0, 3]), [1, -5])
        self.assertEqual(answers([8, 0]), [1, -5])
        self.assertEqual(answers([9, 0]), [1, -5])
        self.assertEqual(answers([10, 0]), [1, 0])
        self.assertEqual(answers([10, 3, 65, 44, 66]), [1, 2])
        self.assertEqual(answers([11, 0]), [1, -8])
        self.assertEqual(answers([11, 5, 65, 46, 82, 85, 78]), [7, 0, 5, 65, 46, 82, 85, 78])
        self.assertEqual(answers([12, 0, 3]), [1, -5])
        self.assertEqual(answers([13, 0, 0]), [1, -5])
        self.assertEqual(answers([13, 0, 2, 65, 66]), [1, -5])

    def test_answers_stand_one_behind_another(self):
        card = [47, 47, 65, 32, 83, 69, 84, 32, 66, 61, 67, 40, 68, 41, 10]
        calls = [1, len(card)] + card + [4, 0, 5, 0, 1, 0, 6, 0, 1, 66, 6, 0, 0, 3, 2, 0]
        self.assertEqual(answers(calls), [
            1, 1,
            14, 6, 1, 1, 1, 0, 1, 65, 6, 66, 61, 67, 40, 68, 41,
            8, 3, 0, 1, 66, 1, 67, 1, 68,
            1, 0,
            1, -6,
            6, 1, 1, 0, 0, 0, 0,
            1, 1,
            1, 0,
        ])

    def test_each_further_call_takes_its_own_numbers(self):
        given = [47, 47, 65, 32, 68, 68, 32, 42, 10, 98, 10, 88]
        calls = [1, len(given)] + given + [7, 0, 0, 8, 0, 9, 0, 10, 2, 44, 44, 11, 5, 65, 46, 82, 85, 78, 12, 0, 3, 13, 0, 1, 65, 3]
        data = [80, 98] + [32] * 79
        self.assertEqual(answers(calls), [
            1, 2,
            82, 0] + data + [
            1, -5,
            94, 3, 8, 47, 47, 65, 32, 68, 68, 32, 42] + data + [2, 47, 42,
            1, 3,
            7, 0, 5, 65, 46, 82, 85, 78,
            1, 0,
            1, 0,
            6, 2, 1, 0, 1, 2, 1,
        ])

    def test_a_number_that_is_no_call(self):
        for number in (14, 99):
            with self.assertRaises(UnknownCall):
                answers([3, number, 0])

    def test_rows_may_be_empty(self):
        self.assertEqual(answers([1, 3, 47, 47, 10, 4, 0]), [1, 1, 7, 10, 1, 1, 0, 0, 0, 0])

    def test_400_calls(self):
        self.assertEqual(answers([3] * 400), [6, 0, 0, 0, 0, 0, 0] * 400)

    def test_a_long_feed(self):
        cards = "//A DD DATA\n" + ("x" * 80 + "\n") * 499
        self.assertEqual(ask(feed(cards), counts(), finish()), [[500], [500, 1, 0, 499, 2, 0], [1]])

    def test_whole_numbers_alone_are_answered(self):
        self.assertEqual({type(number) for number in answers(ALL_CALLS)}, {int})

    def test_a_list_is_answered(self):
        self.assertIs(type(answers([3])), list)


class NothingKept(unittest.TestCase):
    def test_the_list_handed_in_is_not_changed(self):
        calls = Untouchable(ALL_CALLS)
        answers(calls)
        self.assertEqual(list(calls), ALL_CALLS)

    def test_what_is_answered_is_a_list_of_its_own(self):
        calls = list(ALL_CALLS)
        first = answers(calls)
        before = list(first)
        first.append(1)
        first[0] = 99
        self.assertEqual(calls, ALL_CALLS)
        self.assertEqual(answers(calls), before)

    def test_the_same_list_is_answered_the_same(self):
        calls = list(ALL_CALLS)
        self.assertEqual(answers(calls), answers(calls))

    def test_each_list_has_a_new_reader(self):
        answers(feed_cards("//A DD DATA", "row", "x") + feed("kept"))
        self.assertEqual(answers([3]), [6, 0, 0, 0, 0, 0, 0])
        answers([2])
        self.assertEqual(answers([1, 1, 10]), [1, 1])


class AllCalls(unittest.TestCase):
    def test_their_answers(self):
        told = []
        numbers = answers(ALL_CALLS)
        while numbers:
            told.append(numbers[1:1 + numbers[0]])
            numbers = numbers[1 + numbers[0]:]
        self.assertEqual(told[:3], [[4], [4], [4, 1, 1, 1, 0, 12]])
        self.assertEqual(statement_of(told[3]), [3, 1, 1, 3, 1, "A", "*,DLM='Q ',K=(1,L='it''s',M=N(O))"])
        self.assertEqual(item_of(told[4]), [2, 0, "L", "it's", ""])
        self.assertEqual(item_of(told[5]), [3, 0, "M", "N", "O"])
        self.assertEqual(told[6:15], [[-6], [2], [0], [-6], [-5], [6], [-2], [3], [-4]])
        self.assertEqual(statement_of(told[15]), [7, 5, 5, 0, 0, "B", "RC EQ 4"])
        self.assertEqual(told[16], [7, 3, 2, 2, 3, 0])
        self.assertEqual(row_of(told[17]), [0, "row".ljust(80)])
        self.assertEqual(told[18:22], [[-6], [1, 4], [9, 6], [-5]])
        self.assertEqual(cards_of(told[22]), ["//A DD *,DLM='Q ',K=(1,L='it''s',M=N(O))", "row".ljust(80), "Q "])
        self.assertEqual(told[23:26], [[-5], [2], [-8]])
        self.assertEqual(row_of(told[26]), [0, "NOT RC GT 4"])
        self.assertEqual(told[27:32], [[-8], [1], [-5], [2], [-5]])
        self.assertEqual(told[32:], [[0], [0, 0, 0, 0, 0, 0]] + [[-5]] * 5)


class Examples(unittest.TestCase):
    """The document's own examples."""

    def test_a_comment_behind_the_operands(self):
        told = ask(feed_cards("//S1 EXEC PGM=SORT,PARM='A B' first"), statement(0), item(0, 1))
        self.assertEqual(statement_of(told[1]), [2, 1, 1, 2, 0, "S1", "PGM=SORT,PARM='A B'"])
        self.assertEqual(item_of(told[2]), [2, 0, "PARM", "A B", ""])

    def test_two_cards(self):
        told = ask(feed_cards("//A DD DSN=X,", "//   DISP=SHR"), statement(0))
        self.assertEqual(statement_of(told[1]), [3, 1, 2, 2, 0, "A", "DSN=X,DISP=SHR"])

    def test_a_row_of_data(self):
        told = ask(feed_cards("//A DD *", "row", "/*"), statement(0), counts(), row(0, 0))
        self.assertEqual(statement_of(told[1])[4], 1)
        self.assertEqual(told[2], [3, 1, 0, 1, 0, 0])
        self.assertEqual(row_of(told[3]), [0, "row" + " " * 77])

    def test_an_open_quote(self):
        told = ask(feed_cards("//A DD X='", "//", "//" + " " * 13 + "q'"), statement(0))
        self.assertEqual(statement_of(told[1]), [3, 1, 3, 1, 0, "A", "X='" + " " * (61 + 56) + "q'"])

    def test_errors(self):
        self.assertEqual(ask(feed_cards("X"), counts(), error(0))[1:], [[1, 0, 1, 0, 0, 0], [1, 1]])
        self.assertEqual(ask(feed_cards("//A DD DSN=X,"), finish(), counts(), error(0))[2:], [[1, 0, 1, 0, 3, 0], [4, 1]])
        self.assertEqual(ask(feed_cards("//A DD A=(1,(2,3)),B"), error(0))[1], [7, 1])
        self.assertEqual(ask(feed_cards("//A DD (A"), error(0))[1], [6, 1])

    def test_operand_texts(self):
        self.assertEqual(ask(operands("A=(1,(2,3)),B"), operands("(A")), [[-9], [-8]])

    def test_a_plain_form(self):
        told = ask(feed_cards("// IF S1.RC>04 & !(ABEND|S2.RUN) THEN"), statement(0))
        self.assertEqual(statement_of(told[1])[6], "S1.RC GT 4 AND NOT (ABEND OR S2.RUN)")
        told = ask(condition("S1.RC>04 & !(ABEND|S2.RUN)"))
        self.assertEqual(row_of(told[0]), [0, "S1.RC GT 4 AND NOT (ABEND OR S2.RUN)"])


if __name__ == "__main__":
    unittest.main()
