"""Point 4, and point 2 of the list that is told."""

import re
import unittest

from nearerwork.errors import NoText, TooMany
from nearerwork.lexis import words

OWN_WORDS = "name from to at keep deed when do any and or not yes tie step for none falls".split()
SIGNS = "+ - * ( ) [ ] < <= = != ; ,".split()
OWN_PATTERN = "|".join(OWN_WORDS)
SIGN_PATTERN = "|".join(re.escape(sign) for sign in SIGNS)
# The document's words once more, told in another way than the program tells them.
WORD = re.compile(f"0|[1-9][0-9]?|@?(?!(?:{OWN_PATTERN})$)[a-z]{{1,8}}|{OWN_PATTERN}|{SIGN_PATTERN}")
ALL_SIGNS = [chr(code) for code in range(ord("!"), ord("~") + 1)]


class Words(unittest.TestCase):
    def assert_word(self, piece):
        with self.subTest(piece=piece):
            self.assertEqual([piece], words(piece))

    def test_numbers(self):
        for number in range(100):
            self.assert_word(str(number))

    def test_names(self):
        for piece in ("a", "z", "x", "ab", "abcdefgh", "zzzzzzzz", "names", "nam", "yess", "forfor", "fall"):
            self.assert_word(piece)

    def test_far_names(self):
        for piece in ("@a", "@z", "@abcdefgh", "@names", "@fall"):
            self.assert_word(piece)

    def test_own_words(self):
        for piece in OWN_WORDS:
            self.assert_word(piece)

    def test_signs(self):
        for piece in SIGNS:
            self.assert_word(piece)

    def test_words_stand_in_their_order(self):
        self.assertEqual(["(", "x", "+", "12", ")", "<=", "@x", "x"], words("( x + 12 ) <= @x x"))

    def test_all_sorts_of_words_in_one_text(self):
        pieces = OWN_WORDS + SIGNS + ["0", "7", "99", "a", "abcdefgh", "@a", "@abcdefgh"]
        self.assertEqual(pieces, words(" ".join(pieces)))

    def test_shape_is_not_asked_for(self):
        self.assertEqual([")", "and", "1", "2", "["], words(") and 1 2 ["))


class Blanks(unittest.TestCase):
    def test_no_signs(self):
        self.assertEqual([], words(""))

    def test_blanks_alone(self):
        for number in (1, 2, 7, 1000):
            self.assertEqual([], words(" " * number))

    def test_any_number_of_blanks(self):
        for number in (1, 2, 3, 500):
            blanks = " " * number
            with self.subTest(number=number):
                self.assertEqual(["x", "=", "1"], words(f"x{blanks}={blanks}1"))
                self.assertEqual(["x", "=", "1"], words(f"{blanks}x = 1"))
                self.assertEqual(["x", "=", "1"], words(f"x = 1{blanks}"))
                self.assertEqual(["x", "=", "1"], words(f"{blanks}x{blanks}= 1{blanks}"))


class NoWords(unittest.TestCase):
    def assert_no_word(self, piece):
        with self.subTest(piece=piece):
            for text in (piece, f"x {piece}", f"{piece} 1", f"  ( {piece} )  "):
                self.assertRaises(NoText, words, text)

    def test_numbers_with_a_0_ahead(self):
        for piece in ("00", "01", "09", "000", "010", "001"):
            self.assert_no_word(piece)

    def test_three_figures_and_more(self):
        for piece in ("100", "999", "1000", "123456789012"):
            self.assert_no_word(piece)

    def test_great_letters(self):
        for piece in ("A", "Z", "Ab", "aB", "abcdefgH", "Name", "YES", "@A", "@aB"):
            self.assert_no_word(piece)

    def test_names_of_nine_letters(self):
        for piece in ("abcdefghi", "zzzzzzzzz", "abcdefghijklmnop", "@abcdefghi"):
            self.assert_no_word(piece)

    def test_far_names_of_own_words(self):
        for word in OWN_WORDS:
            self.assert_no_word(f"@{word}")

    def test_far_without_a_name(self):
        for piece in ("@", "@@", "@@x", "@1", "@12", "@x1", "@1x", "x@", "x@y", "@x@", "@(", "@+"):
            self.assert_no_word(piece)

    def test_no_blank_between(self):
        for piece in ("x+", "+x", "x+y", "(x", "x)", "x=1", "x<y", "x,", "x;", ";x", "((", "()", "[]", "[yes", "yes]",
                      "<=x", "1x", "x1", "1+", "-1", "+1", "=1", "x<=", ",,", ";;", "(1"):
            self.assert_no_word(piece)

    def test_signs_that_are_none(self):
        for piece in ("==", "=<", ">", ">=", "<>", "!", "!==", "<<", "<==", "--", "**", "/", ":", ":=", ".", "1.0", "_",
                      "x_y", "'", '"', "#", "$", "&", "|", "~", "^", "`", "?", "{", "}", "\\", "a-b"):
            self.assert_no_word(piece)

    def test_each_piece_of_one_and_two_signs(self):
        pieces = ALL_SIGNS + [one + other for one in ALL_SIGNS for other in ALL_SIGNS]
        for piece in pieces:
            if WORD.fullmatch(piece):
                self.assertEqual([piece], words(piece), piece)
            else:
                with self.assertRaises(NoText, msg=piece):
                    words(piece)

    def test_each_sign_beside_a_word(self):
        for word in OWN_WORDS + SIGNS + ["0", "10", "x", "abcdefg", "abcdefgh", "@x", "@abcdefgh"]:
            for sign in ALL_SIGNS:
                for piece in (word + sign, sign + word):
                    if WORD.fullmatch(piece):
                        self.assertEqual([piece], words(piece), piece)
                    else:
                        with self.assertRaises(NoText, msg=piece):
                            words(piece)


class Bounds(unittest.TestCase):
    def test_300_words_are_taken(self):
        self.assertEqual(["x"] * 299, words("x " * 299))
        self.assertEqual(["x"] * 300, words("x " * 300))
        self.assertEqual([";"] * 300, words("  ;" * 300))

    def test_301_words_are_refused(self):
        for number in (301, 302, 1000):
            self.assertRaises(TooMany, words, "x " * number)
            self.assertRaises(TooMany, words, "   ," * number)

    def test_eight_open_brackets_are_taken(self):
        for text in ("( " * 8, "[ " * 8, "( [ " * 4, "[ ( ( " * 2 + "( ["):
            self.assertEqual(text.split(), words(text))

    def test_nine_open_brackets_are_refused(self):
        for text in ("( " * 9, "[ " * 9, "( [ " * 4 + "(", "( [ " * 4 + "[", "( " * 8 + "[", "[ " * 8 + "(",
                     "[ " * 5 + "( " * 4):
            with self.subTest(text=text):
                self.assertRaises(TooMany, words, text)

    def test_nine_that_are_closed_again_are_refused(self):
        self.assertEqual(["("] * 8 + [")"] * 8, words("( " * 8 + ") " * 8))
        self.assertRaises(TooMany, words, "( " * 9 + ") " * 9)
        self.assertRaises(TooMany, words, "( " * 5 + "x + " + "[ " * 4 + "] " * 9)

    def test_closed_ones_are_no_longer_counted(self):
        for text in ("( ) " * 20, "[ ] " * 20, "( " * 8 + ") (", "( " * 8 + ") ) ( (", "( " * 8 + "] [", "[ " * 8 + ") ("):
            self.assertEqual(text.split(), words(text))
        self.assertRaises(TooMany, words, "( " * 8 + ") ( (")
        self.assertRaises(TooMany, words, "( " * 8 + "] ( [")

    def test_not_counted_below_0(self):
        for closing in (") ", "] ", ") ] ", ") " * 9):
            text = closing + "( " * 8
            self.assertEqual(text.split(), words(text))
            self.assertRaises(TooMany, words, closing + "( " * 9)
            self.assertRaises(TooMany, words, closing + "[ " * 9)
        self.assertRaises(TooMany, words, "( ) ) ) " + "( " * 9)


class Order(unittest.TestCase):
    def test_no_word_goes_ahead_of_too_many_words(self):
        for text in ("x " * 301 + "X", "X " + "x " * 301, "x " * 300 + "X", "x " * 150 + "007 " + "x " * 151, "X " * 301):
            self.assertRaises(NoText, words, text)

    def test_no_word_goes_ahead_of_too_many_brackets(self):
        for text in ("( " * 9 + "X", "X " + "( " * 9, "( " * 5 + "100 " + "[ " * 5):
            self.assertRaises(NoText, words, text)

    def test_no_word_goes_ahead_of_both(self):
        self.assertRaises(NoText, words, "( " * 301 + "@")
        self.assertRaises(TooMany, words, "( " * 301)


class OwnList(unittest.TestCase):
    def test_told_is_a_list_of_texts(self):
        told = words("x < 1")
        self.assertIs(list, type(told))
        self.assertEqual([str] * 3, [type(word) for word in told])

    def test_what_is_done_to_it_changes_no_other_answer(self):
        for text in ("", "x", "x = 1"):
            told = words(text)
            again = words(text)
            told.append("y")
            told[0] = "z"
            self.assertEqual(text.split(), again)
            self.assertEqual(text.split(), words(text))

    def test_the_same_each_time(self):
        for text in ("( x + 1 )", "; ; tie none"):
            self.assertEqual(words(text), words(text))
        for number in range(3):
            self.assertRaises(NoText, words, "X")
            self.assertRaises(TooMany, words, "( " * 9)


if __name__ == "__main__":
    unittest.main()
