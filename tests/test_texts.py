"""operands and test: questions about bytes that are handed in, whatever the reader has read."""

import unittest

from calls import ask, condition, counts, feed, feed_cards, finish, operands, row_of, statement

NO_PLAIN_SIGNS = (0, 9, 10, 13, 31, 127, 128, 160, 200, 255)
NO_SIGNS_OF_TESTS = [chr(byte) for byte in range(33, 127) if chr(byte) not in "ABCDEFGHIJKLMNOPQRSTUVWXYZ@#$0123456789.><=!&|()"]


class Asked(unittest.TestCase):
    def all_answer(self, number, *texts):
        for text in texts:
            self.assertEqual(ask(operands(text)), [[number]], text)

    def all_have_the_form(self, form, *texts):
        for text in texts:
            self.assertEqual(row_of(ask(condition(text))[0]), [0, form], text)

    def all_are_refused(self, number, *texts):
        for text in texts:
            self.assertEqual(ask(condition(text)), [[number]], text)


class Operands(Asked):
    def test_the_number_of_items(self):
        self.all_answer(1, "A", "A=1", "*", "'A,B'", "A(B)", "(A,B,C)", "K=(A,L=B)", "()", "A=", "K=''")
        self.all_answer(2, "A,B", ",", "A,", ",A", "A,B=1", "A=1,B=2", "(A,B),C", "K='A,B',L=", "(,),")
        self.all_answer(3, ",,", "A,,", "A,,B=1", "PGM=SORT,PARM='A B',X=(1,2)")

    def test_the_empty_list_of_bytes(self):
        self.all_answer(0, "")

    def test_the_documents_examples(self):
        self.all_answer(-9, "A=(1,(2,3)),B")
        self.all_answer(-8, "(A")
        self.all_answer(2, "PGM=SORT,PARM='A B'", "DSN=X,DISP=SHR")

    def test_no_plain_sign(self):
        for byte in NO_PLAIN_SIGNS:
            self.all_answer(-2, chr(byte), "A" + chr(byte), chr(byte) + "A", f"'{chr(byte)}'", f"A=1,{chr(byte)},A=1")

    def test_each_plain_sign_in_a_quoted_text(self):
        for byte in range(32, 127):
            sign = chr(byte)
            self.all_answer(1, f"'{sign}'" if sign != "'" else "''''")

    def test_2000_bytes(self):
        self.all_answer(1, "A" * 2000, "'" + " " * 1998 + "'")
        self.all_answer(2000, "," * 1999)
        self.all_answer(2001, "," * 2000)
        self.all_answer(-10, "A" * 2001, "," * 2001, "A" * 4000, "(" * 2001, " " * 4000, "'" + " " * 1999 + "'")

    def test_no_operand_text(self):
        self.all_answer(-8, " ", "A B", "A ", " A", "(A", "A)", "(", ")", "'", "'A", "'''", "A'B'", "'A'B", "(A)B", "A(B)C", "A()", "A((B))",
                        "A(B,C)", "A(B=C)", "A=B=C", "=", "=A", "9=A", "a=A", "ABCDEFGHI=A", "A.B.C=D", "(A)=B", "'A'=B", "A(B)=C",
                        "A, B", "(A, B)", "A(B )", "A('B')", "()()", "((A)", "(A))", "A=(", "A='", "A=1,(", "''A", "'A' 'B'", "' ''")

    def test_six_lists_deep(self):
        self.all_answer(1, "((((((A))))))", "((((((A(B)))))))", "K=(1,(2,(3,(4,(5,(6,L=7))))))", "(((((())))))")
        self.all_answer(2, "((((((A)))))),((((((B))))))")

    def test_seven_lists_deep(self):
        self.all_answer(-8, "(((((((A)))))))", "K=(1,(2,(3,(4,(5,(6,L=()))))))", "((((((()))))))", "(" * 2000)

    def test_inner_parts(self):
        self.all_answer(1, "A(B)", "A(" + "B" * 20 + ")", "(A(" + "B" * 20 + "))", "K=A(" + "*" * 20 + ")")
        self.all_answer(-8, "A(" + "B" * 21 + ")", "(A(" + "B" * 21 + "))", "K=A(" + "*" * 21 + ")", "A()")

    def test_keys(self):
        self.all_answer(1, "A=", "ABCDEFGH=1", "ABCDEFGH.ABCDEFGH=1", "@#$.$9=1")
        self.all_answer(-8, "ABCDEFGHI=1", "ABCDEFGHI.A=1", "A.ABCDEFGHI=1", "9A=1", "A-B=1", "A.=1", ".A=1")

    def test_out_of_order(self):
        self.all_answer(-9, "A=1,B", "A=,", "A=1,,B=2", "A=1,(B)", "A=1,'B'", "A=1,A=1", "A=1,B=2,A=3", "A.B=,A.B=", "X,A=1,X")
        self.all_answer(2, "A=1,A.B=1", "A.A=,A=", "(B=1,C),D=1", "X=(A=1,A=2,B),Y=")

    def test_the_order_of_refusals(self):
        long = "A=1,B," + "C" * 2000
        self.all_answer(-2, long + "(\n", "\t" + "A" * 2000, "A=1,B,(\x7f", "A=1,B,\x7f")
        self.all_answer(-10, long + "(", long)
        self.all_answer(-8, "A=1,B,(", "A=1,A=1,'")
        self.all_answer(-9, "A=1,B,()")

    def test_the_key_dlm_is_like_any_other(self):
        self.all_answer(2, "X,DLM=Z", "*,DLM=", "DLM=(A,B),X=Y")


class Tests(Asked):
    def test_the_documents_example(self):
        self.all_have_the_form("S1.RC GT 4 AND NOT (ABEND OR S2.RUN)", "S1.RC>04 & !(ABEND|S2.RUN)")

    def test_the_form_of_the_answer(self):
        self.assertEqual(ask(condition("RC>04")), [[0, 7, 82, 67, 32, 71, 84, 32, 52]])

    def test_questions(self):
        self.all_have_the_form("A.B.RC LE 12", "A.B.RC<=12", " A.B.RC  LE  0012 ")
        self.all_have_the_form("ABEND", "ABEND", "(ABEND)", "  ABEND  ")
        self.all_have_the_form("A.RUN", "A.RUN", "((A.RUN))")
        self.all_have_the_form("A.ABENDCC NE S0C4", "A.ABENDCC!=S0C4", "A.ABENDCC NE S0C4")
        self.all_have_the_form("RC.RC EQ 0", "RC.RC=0")

    def test_brackets_of_the_plain_form(self):
        self.all_have_the_form("A.RUN OR B.RUN OR C.RUN", "(A.RUN|B.RUN)|C.RUN")
        self.all_have_the_form("A.RUN OR (B.RUN OR C.RUN)", "A.RUN|(B.RUN|C.RUN)")
        self.all_have_the_form("A.RUN AND (B.RUN AND C.RUN)", "A.RUN&(B.RUN&C.RUN)")
        self.all_have_the_form("(A.RUN OR B.RUN) AND C.RUN", "(A.RUN|B.RUN)&C.RUN")
        self.all_have_the_form("A.RUN AND B.RUN OR C.RUN", "(A.RUN&B.RUN)|(C.RUN)")
        self.all_have_the_form("NOT (A.RUN AND B.RUN) OR NOT NOT C.RUN", "!(A.RUN&B.RUN)|!(!(C.RUN))")

    def test_the_empty_list_of_bytes(self):
        self.all_are_refused(-8, "")

    def test_no_plain_sign(self):
        for byte in NO_PLAIN_SIGNS:
            self.all_are_refused(-2, chr(byte), "ABEND" + chr(byte), chr(byte) + "ABEND", "(" + chr(byte))

    def test_no_test(self):
        self.all_are_refused(-8, " ", "OR", "A", "RUN", "RC", "RC 4", "ABEND ABEND", "ABEND OR", "(ABEND", "ABEND)", "()", "!", "RC>=",
                             "ABEND THEN", "THEN", "A.B.C.RC=1", "ABENDCC>S0C4", "RC=S0C4", "abend")
        for sign in NO_SIGNS_OF_TESTS:
            self.all_are_refused(-8, "ABEND" + sign, sign, "ABEND|" + sign)

    def test_numbers(self):
        for number in ("0", "9", "10", "4095"):
            self.all_have_the_form(f"RC EQ {number}", f"RC={number}", f"RC={number.zfill(4)}")
        self.all_have_the_form("RC EQ 0", "RC=00", "RC=0000")
        self.all_have_the_form("RC EQ 409", "RC=0409")
        self.all_are_refused(-8, "RC=4096", "RC=9999", "RC=04095", "RC=04096", "RC=00000", "RC=00004")

    def test_codes(self):
        self.all_have_the_form("ABENDCC EQ U4095", "ABENDCC=U4095")
        self.all_have_the_form("ABENDCC EQ U0004", "ABENDCC=U0004")
        self.all_are_refused(-8, "ABENDCC=U4096", "ABENDCC=U04095", "ABENDCC=U409", "ABENDCC=S0G4")

    def test_brackets_and_nots_twelve_deep(self):
        self.all_have_the_form("ABEND", "(" * 12 + "ABEND" + ")" * 12)
        self.all_have_the_form("NOT " * 12 + "ABEND", "!" * 12 + "ABEND", "NOT " * 12 + "ABEND")
        self.all_have_the_form("NOT " * 6 + "ABEND", "!(" * 6 + "ABEND" + ")" * 6, "(!" * 6 + "ABEND" + ")" * 6)

    def test_brackets_and_nots_thirteen_deep(self):
        self.all_are_refused(-8, "(" * 13 + "ABEND" + ")" * 13, "!" * 13 + "ABEND", "!(" * 6 + "!ABEND" + ")" * 6,
                             "(" * 12 + "ABEND&!ABEND" + ")" * 12, "(" * 2000, "!" * 2000)

    def test_2000_bytes(self):
        self.all_have_the_form("ABEND", "ABEND" + " " * 1995, " " * 1000 + "ABEND" + " " * 995)
        self.all_are_refused(-8, " " * 2000, "A" * 2000)
        self.all_are_refused(-10, "ABEND" + " " * 1996, " " * 2001, "A" * 2001, "(" * 4000)

    def test_a_plain_form_of_2000_signs(self):
        behind = "|ABEND" * 220
        self.assertEqual(len("ABCDEFGH.ABCD.ABEND" + " OR ABEND" * 220), 1999)
        self.all_have_the_form("ABCDEFGH.ABCDE.ABEND" + " OR ABEND" * 220, "ABCDEFGH.ABCDE.ABEND" + behind)
        self.all_are_refused(-10, "ABCDEFGH.ABCDEF.ABEND" + behind)
        self.all_are_refused(-10, "ABCDEFGH.ABCDEF.ABEND" + " OR ABEND" * 220)
        self.all_are_refused(-10, "ABEND" + "|ABEND" * 300)

    def test_a_plain_form_may_be_longer_than_that_of_a_statement(self):
        self.all_have_the_form("ABCDEFGH.A.ABEND" + " OR ABEND" * 220, "ABCDEFGH.A.ABEND" + "|ABEND" * 220)

    def test_the_order_of_refusals(self):
        self.all_are_refused(-2, "ABEND" + "|ABEND" * 400 + "\n", "\x7f(", "(" * 3000 + "\x80")
        self.all_are_refused(-10, "ABEND" + "|ABEND" * 400 + "(", "(" * 2001)
        self.all_are_refused(-8, "ABEND" + "|ABEND" * 300 + "|", "ABEND" + "|ABEND" * 300 + ")")


class NoState(unittest.TestCase):
    def test_they_look_at_no_state(self):
        questions = (operands("A,B=(C)"), operands("(A"), condition("RC>04"), condition("RC>"))
        alone = ask(*questions)
        for before in (feed_cards("//A DD X,"), feed_cards("//A DD '"), feed_cards("//A DD *", "row"), feed("//A"), finish()):
            told = ask(before, counts(), *questions, counts())
            self.assertEqual(told[2:6], alone)
            self.assertEqual(told[1], told[6])

    def test_they_make_no_statement(self):
        self.assertEqual(ask(operands("A"), condition("ABEND"), counts(), statement(0))[2:], [[0] * 6, [-5]])

    def test_one_question_does_not_change_the_next(self):
        told = ask(operands("A="), operands("A"), operands("'"), operands("A"), condition("(ABEND"), condition("ABEND"))
        self.assertEqual(told[:5], [[1], [1], [-8], [1], [-8]])
        self.assertEqual(row_of(told[5]), [0, "ABEND"])


if __name__ == "__main__":
    unittest.main()
