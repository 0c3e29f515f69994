"""feed, finish and clear: bytes in pieces, refusals, the closed reader."""

import unittest

from calls import ask, clear, counts, feed, feed_cards, finish, find, item, statement, statement_of

PLAIN = 0
WITHIN = 1
IN_DATA = 2
CLOSED = 3


class NewReader(unittest.TestCase):
    def test_a_new_reader_has_read_nothing(self):
        self.assertEqual(ask(counts()), [[0, 0, 0, 0, PLAIN, 0]])

    def test_a_new_reader_has_no_statement(self):
        self.assertEqual(ask(statement(0), item(0, 0), find(0, "A")), [[-5], [-5], [-5]])


class Pieces(unittest.TestCase):
    def test_an_empty_feed_reads_no_card(self):
        self.assertEqual(ask(feed(""), counts()), [[0], [0, 0, 0, 0, PLAIN, 0]])

    def test_a_line_end_alone_is_an_empty_card(self):
        self.assertEqual(ask(feed("\n"), counts()), [[1], [1, 0, 1, 0, PLAIN, 0]])

    def test_feed_tells_all_cards_read_since_the_reader_was_new(self):
        told = ask(feed_cards("//*", "//*"), feed_cards("//*"), feed(""), feed("//*"))
        self.assertEqual(told, [[2], [3], [3], [3]])

    def test_what_is_behind_the_last_line_end_is_kept(self):
        told = ask(feed("//\n//A EX"), counts(), feed("EC"), counts(), feed(" X=1\n/"), counts(), statement(1))
        self.assertEqual(told[0], [1])
        self.assertEqual(told[1], [1, 1, 0, 0, PLAIN, 6])
        self.assertEqual(told[2], [1])
        self.assertEqual(told[3], [1, 1, 0, 0, PLAIN, 8])
        self.assertEqual(told[4], [2])
        self.assertEqual(told[5], [2, 2, 0, 0, PLAIN, 1])
        self.assertEqual(statement_of(told[6]), [2, 2, 2, 1, 0, "A", "X=1"])

    def test_a_card_handed_in_sign_by_sign(self):
        signs = "//S1 EXEC PGM=SORT\n"
        told = ask(*[feed(sign) for sign in signs], statement(0))
        self.assertEqual(told[:-1], [[0]] * (len(signs) - 1) + [[1]])
        self.assertEqual(statement_of(told[-1]), [2, 1, 1, 1, 0, "S1", "PGM=SORT"])

    def test_a_line_end_may_come_by_itself(self):
        told = ask(feed("//"), feed("\n"), counts())
        self.assertEqual(told, [[0], [1], [1, 1, 0, 0, PLAIN, 0]])

    def test_a_card_is_read_at_once(self):
        told = ask(feed("//A DD *\nrow\n//"), counts())
        self.assertEqual(told[1], [2, 1, 0, 1, IN_DATA, 2])


class Widths(unittest.TestCase):
    def test_a_card_of_80_signs(self):
        self.assertEqual(ask(feed("//*" + "x" * 77 + "\n"), counts()), [[1], [1, 0, 0, 0, PLAIN, 0]])

    def test_a_card_of_81_signs(self):
        self.assertEqual(ask(feed("//*" + "x" * 78 + "\n"), counts()), [[-1], [0, 0, 0, 0, PLAIN, 0]])

    def test_80_kept_signs(self):
        told = ask(feed("/" * 80), counts(), feed("\n"))
        self.assertEqual(told, [[0], [0, 0, 0, 0, PLAIN, 80], [1]])

    def test_81_kept_signs(self):
        self.assertEqual(ask(feed("/" * 81), counts()), [[-1], [0, 0, 0, 0, PLAIN, 0]])

    def test_kept_signs_and_new_ones_count_together(self):
        told = ask(feed("/" * 79), feed("//"), feed("//\n"), counts(), feed("/\n"))
        self.assertEqual(told, [[0], [-1], [-1], [0, 0, 0, 0, PLAIN, 79], [1]])

    def test_one_wide_card_refuses_all_cards_of_the_feed(self):
        told = ask(feed("//\n//\n" + "x" * 81 + "\n//\n"), counts())
        self.assertEqual(told, [[-1], [0, 0, 0, 0, PLAIN, 0]])

    def test_a_wide_rest_refuses_all_cards_of_the_feed(self):
        self.assertEqual(ask(feed("//\n" + "x" * 81), counts()), [[-1], [0, 0, 0, 0, PLAIN, 0]])


class Amounts(unittest.TestCase):
    def test_500_cards(self):
        told = ask(feed("/*\n" * 500), counts())
        self.assertEqual(told, [[500], [500, 0, 0, 0, PLAIN, 0]])

    def test_501_cards(self):
        self.assertEqual(ask(feed("/*\n" * 501), counts()), [[-3], [0, 0, 0, 0, PLAIN, 0]])

    def test_501_cards_in_two_feeds(self):
        told = ask(feed("/*\n" * 499), feed("/*\n/*\n"), feed("/*\n"), feed("\n"), feed(""), counts())
        self.assertEqual(told, [[499], [-3], [500], [-3], [500], [500, 0, 0, 0, PLAIN, 0]])

    def test_kept_bytes_count_as_one_more_card(self):
        told = ask(feed("/*\n" * 499 + "/"), feed("\n/"), feed("\n"), feed("/"), finish())
        self.assertEqual(told, [[499], [-3], [500], [-3], [0]])

    def test_kept_bytes_are_the_500th_card_at_finish(self):
        told = ask(feed("/*\n" * 499 + "//"), finish(), counts())
        self.assertEqual(told, [[499], [1], [500, 1, 0, 0, CLOSED, 0]])


class Bytes(unittest.TestCase):
    def test_only_line_ends_and_plain_signs_are_taken(self):
        for byte in range(256):
            told = ask([1, 5, 47, 47, 42, byte, 10], counts())
            if byte == 10:
                self.assertEqual(told, [[2], [2, 0, 1, 0, PLAIN, 0]])
            elif 32 <= byte <= 126:
                self.assertEqual(told, [[1], [1, 0, 0, 0, PLAIN, 0]])
            else:
                self.assertEqual(told, [[-2], [0, 0, 0, 0, PLAIN, 0]])


class OrderOfRefusals(unittest.TestCase):
    def test_closed_comes_first(self):
        told = ask(finish(), feed("\t" + "x" * 81 + "\n" * 501), feed("x" * 81), feed("\n" * 501), feed(""))
        self.assertEqual(told, [[0], [-4], [-4], [-4], [-4]])

    def test_a_wrong_byte_comes_before_a_wide_card(self):
        self.assertEqual(ask(feed("x" * 81 + "\n" * 501 + "\t"))[0], [-2])

    def test_a_wide_card_comes_before_too_many_cards(self):
        self.assertEqual(ask(feed("\n" * 501 + "x" * 81))[0], [-1])

    def test_too_many_cards(self):
        self.assertEqual(ask(feed("\n" * 501 + "x" * 80))[0], [-3])


class Refused(unittest.TestCase):
    def test_a_refused_feed_changes_nothing(self):
        before = feed("//A DD X,\n//  Y")
        for refused, number in (("Z\t\n", -2), ("Z" * 77 + "\n", -1), ("Z\n" * 500, -3)):
            told = ask(before, counts(), feed(refused), counts(), feed("\n"), statement(0))
            self.assertEqual(told[1], [1, 0, 0, 0, WITHIN, 5])
            self.assertEqual(told[2], [number])
            self.assertEqual(told[3], told[1])
            self.assertEqual(statement_of(told[5]), [3, 1, 2, 2, 0, "A", "X,Y"])

    def test_refused_questions_change_nothing(self):
        told = ask(
            feed("//A DD *\nrow\n//"), counts(), statement(1), item(0, 1), item(1, 0), find(0, "X"), find(1, ""), counts(),
        )
        self.assertEqual(told[2:7], [[-5], [-6], [-5], [-6], [-5]])
        self.assertEqual(told[7], told[1])

    def test_a_refused_finish_changes_nothing(self):
        told = ask(feed_cards("//A DD DATA", "row"), finish(), counts(), finish(), counts())
        self.assertEqual(told[2], [2, 1, 1, 1, CLOSED, 0])
        self.assertEqual(told[3], [-4])
        self.assertEqual(told[4], told[2])


class Finish(unittest.TestCase):
    def test_finish_of_a_new_reader(self):
        self.assertEqual(ask(finish(), counts()), [[0], [0, 0, 0, 0, CLOSED, 0]])

    def test_finish_tells_the_number_of_statements(self):
        self.assertEqual(ask(feed_cards("//", "//", "x"), finish())[1], [2])

    def test_kept_bytes_are_read_as_a_card(self):
        told = ask(feed("//\n//A PROC"), finish(), counts(), statement(1))
        self.assertEqual(told[1], [2])
        self.assertEqual(told[2], [2, 2, 0, 0, CLOSED, 0])
        self.assertEqual(statement_of(told[3]), [4, 2, 2, 0, 0, "A", ""])

    def test_one_kept_byte_is_a_card(self):
        for byte in ("/", " ", "x"):
            self.assertEqual(ask(feed(byte), finish(), counts())[1:], [[0], [1, 0, 1, 0, CLOSED, 0]])

    def test_without_kept_bytes_no_card_is_read(self):
        self.assertEqual(ask(feed("//\n"), finish(), counts())[2], [1, 1, 0, 0, CLOSED, 0])

    def test_kept_bytes_may_go_on_with_a_statement(self):
        told = ask(feed("//A DD X,\n// Y"), finish(), counts())
        self.assertEqual(told[1:], [[1], [2, 1, 0, 0, CLOSED, 0]])

    def test_kept_bytes_may_begin_a_statement_that_is_dropped(self):
        told = ask(feed("//A DD X,"), finish(), counts())
        self.assertEqual(told[1:], [[0], [1, 0, 1, 0, CLOSED, 0]])

    def test_kept_bytes_may_end_data(self):
        told = ask(feed("//A DD DATA\nrow\n/*"), finish(), counts())
        self.assertEqual(told[1:], [[1], [3, 1, 0, 1, CLOSED, 0]])

    def test_kept_bytes_may_begin_data_that_are_not_ended(self):
        told = ask(feed("//A DD DATA"), finish(), counts())
        self.assertEqual(told[1:], [[1], [1, 1, 1, 0, CLOSED, 0]])

    def test_a_closed_reader_takes_nothing_but_answers_questions(self):
        told = ask(
            feed_cards("//A SET B=C"), finish(), feed("//\n"), finish(), statement(0), item(0, 0), find(0, "B"), counts(),
        )
        self.assertEqual(told[2:4], [[-4], [-4]])
        self.assertEqual(statement_of(told[4]), [6, 1, 1, 1, 0, "A", "B=C"])
        self.assertEqual(told[5], [1, 0, 1, 66, 1, 67, 0])
        self.assertEqual(told[6], [0])
        self.assertEqual(told[7], [1, 1, 0, 0, CLOSED, 0])


class Clear(unittest.TestCase):
    def test_clear_makes_the_reader_new(self):
        for cards in ("//A DD DATA\nrow\nx", "//A DD X='\n// y", "//\nx\n//"):
            told = ask(feed(cards), clear(), counts(), statement(0), feed("//\n"), counts())
            self.assertEqual(told[1], [0])
            self.assertEqual(told[2], [0, 0, 0, 0, PLAIN, 0])
            self.assertEqual(told[3], [-5])
            self.assertEqual(told[4:], [[1], [1, 1, 0, 0, PLAIN, 0]])

    def test_clear_behind_finish_lets_cards_in_again(self):
        told = ask(feed("//\n"), finish(), clear(), feed("//A PEND\n"), statement(0), finish(), counts())
        self.assertEqual(told[2:4], [[0], [1]])
        self.assertEqual(statement_of(told[4]), [5, 1, 1, 0, 0, "A", ""])
        self.assertEqual(told[5:], [[1], [1, 1, 0, 0, CLOSED, 0]])

    def test_clear_gives_room_for_500_cards_again(self):
        told = ask(feed("/*\n" * 500), clear(), feed("/*\n" * 500))
        self.assertEqual(told, [[500], [0], [500]])


if __name__ == "__main__":
    unittest.main()
