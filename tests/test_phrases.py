"""Points 4 to 7 as the readers of sums and sayings keep them, and point 2 of what they tell."""

import itertools
import unittest

from nearerwork.errors import NoText, TooMany
from nearerwork.phrases import read_saying, read_sum
from nearerwork.sayings import AtMost, Both, Either, Equal, Less, Not, Saying, Unlike
from nearerwork.sums import Minus, Named, Number, Plus, Sum, Times
from tests.helper import SAYING, SUM, balanced, blanks, long_saying, matches, refusal, spoiled, squares

GREAT = 10 ** 40
VALUES = ({"x": 0, "y": 0, "@x": 0}, {"x": 2, "y": -3, "@x": 7}, {"x": GREAT, "y": -GREAT, "@x": GREAT + 1},
          {"x": 3, "y": 3, "@x": 3}, {"x": -1, "y": 5, "@x": 4})
# What Python says of these values in its own tongue.
SUMS = {
    "0": lambda x, y, far: 0,
    "9": lambda x, y, far: 9,
    "99": lambda x, y, far: 99,
    "x": lambda x, y, far: x,
    "@x": lambda x, y, far: far,
    "( x + y )": lambda x, y, far: x + y,
    "( x - y )": lambda x, y, far: x - y,
    "( x * y )": lambda x, y, far: x * y,
    "( @x - 10 )": lambda x, y, far: far - 10,
    "( ( x - y ) - @x )": lambda x, y, far: x - y - far,
    "( x - ( y - @x ) )": lambda x, y, far: x - (y - far),
    "( ( x + 1 ) * ( y - 2 ) )": lambda x, y, far: (x + 1) * (y - 2),
    "( ( x * ( y + @x ) ) - ( 3 * x ) )": lambda x, y, far: x * (y + far) - 3 * x,
}
SAYINGS = {
    "yes": lambda x, y, far: True,
    "x < y": lambda x, y, far: x < y,
    "x <= y": lambda x, y, far: x <= y,
    "x = y": lambda x, y, far: x == y,
    "x != y": lambda x, y, far: x != y,
    "@x < 4": lambda x, y, far: far < 4,
    "( x + y ) <= ( 2 * @x )": lambda x, y, far: x + y <= 2 * far,
    "[ x < y and y < @x ]": lambda x, y, far: x < y < far,
    "[ x < y or y < @x ]": lambda x, y, far: x < y or y < far,
    "[ not x = @x ]": lambda x, y, far: x != far,
    "[ not [ not yes ] ]": lambda x, y, far: True,
    "[ [ x < y or yes ] and [ not ( x - 1 ) != y ] ]": lambda x, y, far: x - 1 == y,
    "[ [ not x < y ] or [ x = 1 and @x = 2 ] ]": lambda x, y, far: x >= y or (x == 1 and far == 2),
}
NOT_SUMS = (
    "", "   ", "( )", "( x )", "( 1 )", "x y", "x +", "+ x", "x + y", "x - 1", "( x + )", "( + y )", "( x y )", "( x + y",
    "x + y )", "( x + y ) )", "( ( x + y )", "( x + y + 1 )", "( x + y ) 1", "1 ( x + y )", "[ x + y ]", "( x + y ]",
    "[ x + y )", "( x < y )", "( x = y )", "( x , y )", "( x and y )", "x ;", "; x", "none", "name", "- 1", "( - 1 )",
    "( x - - 1 )", "( x * * y )", "( ( x ) + y )", "( x + ( y ) )", ")", "(", "@x @x", "12 12", "( x + yes )",
    "( x to y )", "( ( x + y ) ( x + y ) )", "( x + y ) + 1",
)
NOT_SAYINGS = (
    "", "   ", "[ ]", "[ yes ]", "( yes )", "yes yes", "not yes", "[ not ]", "[ not yes", "[ not yes yes ]", "[ and yes ]",
    "[ yes and ]", "[ yes yes ]", "[ yes or or yes ]", "yes and yes", "[ yes and yes and yes ]", "[ yes and yes ) ]",
    "[ yes not yes ]", "x <", "< x", "x < y < 1", "x y", "x < y z", "x = = y", "( x < y )", "[ x < y ]", "x + y < 1",
    "x < y + 1", "( x + y", "x < ( y", "x < y )", "yes ;", "; yes", "yes , yes", "no", "[ x and y ]", "[ not x ]",
    "[ yes < yes ]", "yes = yes", "( yes and yes )", "[ yes and yes )", "( yes and yes ]", "x any y", "[ 1 or yes ]",
    "[ yes or 1 ]", "keep yes", "none", "[ x < y and yes ] yes", "[ [ yes and yes ]", "[ yes and yes ] ]", "x < yes",
    "[ not yes and yes ]", "[ yes and not yes ]", "= ", "]", "[",
)


def brackets(depth):
    return "( 1 + " * depth + "x" + " )" * depth


def same_values(values):
    return values["x"], values["y"], values["@x"]


class Read(unittest.TestCase):
    def test_sums_are_worth_what_they_say(self):
        for text, asked in SUMS.items():
            for values in VALUES:
                with self.subTest(text=text, values=values):
                    self.assertEqual(asked(*same_values(values)), read_sum(text).worth(values))

    def test_sayings_hold_where_they_say(self):
        for text, asked in SAYINGS.items():
            for values in VALUES:
                with self.subTest(text=text, values=values):
                    self.assertIs(asked(*same_values(values)), read_saying(text).holds(values))

    def test_each_number(self):
        for number in range(100):
            self.assertEqual(number, read_sum(str(number)).worth({}))
            self.assertIs(True, read_saying(f"{number} = x").holds({"x": number}))

    def test_names_that_look_like_own_words(self):
        for name in ("yess", "ye", "an", "nota", "names", "abcdefgh", "@yess", "@abcdefgh"):
            self.assertEqual(5, read_sum(name).worth({name: 5}))
            self.assertEqual([name], read_saying(f"{name} < 1").named())

    def test_the_sorts(self):
        for text, sort in (("7", Number), ("x", Named), ("@x", Named), ("( x + 1 )", Plus), ("( x - 1 )", Minus),
                           ("( x * 1 )", Times)):
            self.assertIsInstance(read_sum(text), sort)
            self.assertIsInstance(read_sum(text), Sum)
        for text, sort in (("yes", Saying), ("x < 1", Less), ("x <= 1", AtMost), ("x = 1", Equal), ("x != 1", Unlike),
                           ("[ yes and yes ]", Both), ("[ yes or yes ]", Either), ("[ not yes ]", Not)):
            self.assertIsInstance(read_saying(text), sort)
            self.assertIsInstance(read_saying(text), Saying)

    def test_named(self):
        self.assertEqual(["@x", "x", "y"], read_sum("( ( y * x ) - ( @x + y ) )").named())
        self.assertEqual(["@x", "x", "y"], read_saying("[ y < x and [ not @x = y ] ]").named())
        self.assertEqual([], read_saying("[ yes or 1 < 2 ]").named())

    def test_blanks_of_any_number(self):
        for ahead, between, behind in ((0, 1, 0), (1, 1, 0), (0, 1, 1), (3, 2, 5), (0, 40, 0), (900, 1, 900)):
            for text in SUMS:
                self.assertEqual(text, read_sum(blanks(text, ahead, between, behind)).shown())
            for text in SAYINGS:
                self.assertEqual(text, read_saying(blanks(text, ahead, between, behind)).shown())

    def test_one_within_another_to_eight_brackets(self):
        for depth in range(9):
            self.assertEqual(depth + 5, read_sum(brackets(depth)).worth({"x": 5}))
            self.assertEqual(brackets(depth), read_sum(brackets(depth)).shown())
            self.assertIs(depth % 2 == 0, read_saying(squares(depth)).holds({}))
            self.assertEqual(squares(depth), read_saying(squares(depth)).shown())
            mixed = squares(8 - depth, brackets(depth) + " = 5")
            self.assertEqual(mixed, read_saying(mixed).shown())

    def test_both_sides_deep(self):
        deep = brackets(8)
        self.assertEqual(f"{deep} <= {deep}", read_saying(f"{deep} <= {deep}").shown())
        text = f"[ {squares(7)} and {squares(7)} ]"
        self.assertEqual(text, read_saying(text).shown())


class Refused(unittest.TestCase):
    def test_no_sums(self):
        for text in NOT_SUMS:
            with self.subTest(text=text):
                self.assertIs(NoText, refusal(read_sum, text))

    def test_no_sayings(self):
        for text in NOT_SAYINGS:
            with self.subTest(text=text):
                self.assertIs(NoText, refusal(read_saying, text))

    def test_one_where_the_other_is_asked(self):
        for text in SAYINGS:
            self.assertIs(NoText, refusal(read_sum, text), text)
        for text in SUMS:
            self.assertIs(NoText, refusal(read_saying, text), text)

    def test_more_words_behind(self):
        for more in ("x", "1", ")", "]", "yes", ";", ",", "and", "+", "(", "< 1 <", "to"):
            for text in SUMS:
                self.assertIs(NoText, refusal(read_sum, f"{text} {more}"), text)
            for text in SAYINGS:
                self.assertIs(NoText, refusal(read_saying, f"{text} {more}"), text)

    def test_one_word_spoiled(self):
        for text in SUMS:
            for one in spoiled(text):
                asked = None if matches(SUM, one) else NoText
                self.assertIs(asked, refusal(read_sum, one), one)
        for text in SAYINGS:
            for one in spoiled(text):
                asked = None if matches(SAYING, one) else NoText
                self.assertIs(asked, refusal(read_saying, one), one)

    def test_all_short_texts(self):
        vocabulary = ("x", "1", "(", ")", "+", "[", "]", "not", "and", "yes", "<")
        for number in range(5):
            for pieces in itertools.product(vocabulary, repeat=number):
                text = " ".join(pieces)
                self.assertIs(None if matches(SUM, text) else NoText, refusal(read_sum, text), text)
                self.assertIs(None if matches(SAYING, text) else NoText, refusal(read_saying, text), text)

    def test_pieces_that_are_no_words(self):
        for piece in ("X", "01", "100", "x+1", "@", "@yes", "abcdefghi", "==", ">", "[yes", "1.5", "_", "%"):
            for text in (piece, f"{piece} x", f"( x + {piece} )", f"( {piece} + x )"):
                self.assertIs(NoText, refusal(read_sum, text), text)
            for text in (piece, f"{piece} < x", f"[ yes and x = {piece} ]", f"yes {piece}"):
                self.assertIs(NoText, refusal(read_saying, text), text)


class Bounds(unittest.TestCase):
    def assert_refused(self, asked, text):
        with self.subTest(text=text):
            self.assertIs(asked, refusal(read_sum, text))
            self.assertIs(asked, refusal(read_saying, text))

    def test_long_sums(self):
        # A sum has one word more than a multiple of four.
        long, longer = balanced(74, "x", "( {} + {} )"), balanced(75, "x", "( {} + {} )")
        self.assertEqual((297, 301), (len(long.split()), len(longer.split())))
        self.assertEqual(75, read_sum(long).worth({"x": 1}))
        self.assertEqual(long, read_sum(long).shown())
        self.assertIs(TooMany, refusal(read_sum, longer))
        self.assertIs(NoText, refusal(read_sum, longer + " X"))

    def test_sayings_of_300_and_301_words(self):
        long, longer = long_saying(300), long_saying(301)
        self.assertEqual((300, 301), (len(long.split()), len(longer.split())))
        self.assertIs(False, read_saying(long).holds({}))
        self.assertEqual(long, read_saying(long).shown())
        self.assertEqual(long, read_saying(blanks(long, 3, 2, 1)).shown())
        self.assertIs(TooMany, refusal(read_saying, longer))
        self.assertIs(NoText, refusal(read_saying, longer.replace("yes", "Yes", 1)))

    def test_words_without_shape(self):
        self.assert_refused(NoText, "x " * 300)
        self.assert_refused(TooMany, "x " * 301)
        self.assert_refused(NoText, "x " * 299 + "X")
        self.assert_refused(NoText, "x " * 300 + "X")
        self.assert_refused(NoText, "X " + "x " * 300)

    def test_eight_and_nine_open_brackets(self):
        for depth in (9, 10, 60):
            self.assertIs(TooMany, refusal(read_sum, brackets(depth)))
            self.assertIs(TooMany, refusal(read_saying, squares(depth)))
        for depth in range(10):
            self.assertIs(TooMany, refusal(read_saying, squares(9 - depth, brackets(depth) + " = 5")))
        self.assertIs(TooMany, refusal(read_saying, f"[ yes and {squares(8)} ]"))
        self.assertIs(TooMany, refusal(read_saying, f"x < {brackets(9)}"))

    def test_brackets_without_shape(self):
        for one in ("( ", "[ "):
            self.assert_refused(NoText, one * 8)
            self.assert_refused(TooMany, one * 9)
            self.assert_refused(NoText, one * 8 + "X")
            self.assert_refused(NoText, one * 9 + "X")
            self.assert_refused(NoText, "X " + one * 9)
            self.assert_refused(TooMany, ") ] " + one * 9)
            self.assert_refused(NoText, ") ] " + one * 8)
        self.assert_refused(TooMany, brackets(9) + " )")
        self.assert_refused(TooMany, squares(9) + " yes")

    def test_with_a_piece_that_is_no_word(self):
        self.assertIs(NoText, refusal(read_sum, brackets(9).replace("x", "X")))
        self.assertIs(NoText, refusal(read_saying, squares(9).replace("yes", "YES")))
        self.assertIs(NoText, refusal(read_sum, brackets(8).replace("x", "X")))
        self.assertIs(NoText, refusal(read_saying, squares(8).replace("yes", "YES")))


class ShownAgain(unittest.TestCase):
    def test_read_and_shown_and_read_again(self):
        for text in SUMS:
            again = read_sum(read_sum(text).shown())
            self.assertEqual(text, again.shown())
            for values in VALUES:
                self.assertEqual(read_sum(text).worth(values), again.worth(values))
        for text in SAYINGS:
            again = read_saying(read_saying(text).shown())
            self.assertEqual(text, again.shown())
            for values in VALUES:
                self.assertIs(read_saying(text).holds(values), again.holds(values))

    def test_whatever_spoiled_text_is_read(self):
        for text in SUMS:
            for one in spoiled(text):
                if matches(SUM, one):
                    self.assertEqual(one, read_sum(one).shown())
        for text in SAYINGS:
            for one in spoiled(text):
                if matches(SAYING, one):
                    self.assertEqual(one, read_saying(one).shown())

    def test_what_is_made_by_hand(self):
        for one in (Sum(), Plus(Sum(), Named("x")), Times(Minus(Named("x"), Number(9)), Named("@x"))):
            again = read_sum(one.shown())
            self.assertEqual((one.shown(), one.named()), (again.shown(), again.named()))
            for values in VALUES:
                self.assertEqual(one.worth(values), again.worth(values))
        for one in (Saying(), Both(Less(Sum(), Named("x")), Saying()), Not(Either(Equal(Sum(), Number(1)), Saying()))):
            again = read_saying(one.shown())
            self.assertEqual((one.shown(), one.named()), (again.shown(), again.named()))
            for values in VALUES:
                self.assertIs(one.holds(values), again.holds(values))

    def test_new_each_time(self):
        self.assertIsNot(read_sum("( x + 1 )"), read_sum("( x + 1 )"))
        told = read_saying("[ x < 1 and yes ]")
        told.named().append("zz")
        self.assertEqual(["x"], read_saying("[ x < 1 and yes ]").named())
        self.assertEqual(["x"], told.named())


if __name__ == "__main__":
    unittest.main()
