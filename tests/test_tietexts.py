"""Point 13, points 4 and 7 as the reader of ties keeps them, and point 2 of what it tells."""

import itertools
import re
import unittest

from nearerwork.errors import NoName, NoStep, NoText, TooMany, Twice
from nearerwork.machinetexts import read_machine, shown_machine
from nearerwork.phrases import read_saying, read_sum
from nearerwork.ties import Tie, answers, tied
from nearerwork.tietexts import read_tie, shown_tie
from tests.helper import NAME, SAYING, SUM, blanks, long_saying, matches, parts_of, refusal, spoiled, squares

FAR = read_machine("name x from 0 to 5 at 0 ; name far from 0 to 1 at 0 ; "
                   "deed add when x < 5 do x = ( x + 1 ) ; deed both when yes ; deed farther when yes")
NEAR = read_machine("name x from 0 to 3 at 0 ; name y from 0 to 2 at 0 ; "
                    "deed into when yes ; deed back when yes ; deed both when yes")
EMPTY = read_machine("")
STILL = read_machine("name x from 0 to 3 at 0 ; name y from 0 to 2 at 0")
INTO, BACK, BOTH = "step into for add", "step back for none", "step both for both"
STEPS = f"{INTO} ; {BACK} ; {BOTH}"
SOUND = f"tie @x = x ; {STEPS} ; falls y"
TEXTS = (
    SOUND,
    f"tie yes ; {STEPS} ; falls 0",
    f"tie [ @x = ( x + y ) and [ not @far = 1 ] ] ; {STEPS} ; falls ( ( 3 - x ) * y )",
    "tie yes ; step into for none ; step back for none ; step both for none ; falls ( x + y )",
    "tie x < @x ; step into for farther ; step back for farther ; step both for farther ; falls 99",
    f"tie x < y ; step into for both ; {BACK} ; step both for add ; falls x",
)


def due(text):
    """The refusal that point 13 tells for a text of words, not too long or deep, of FAR and NEAR."""
    parts = parts_of(text)
    if len(parts) < 2 or not matches(f"tie {SAYING}", parts[0]) or not matches(f"falls {SUM}", parts[-1]):
        return NoText
    if not all(matches(f"step {NAME} for (?:none|{NAME})", part) for part in parts[1:-1]):
        return NoText
    steps = [(part.split()[1], part.split()[3]) for part in parts[1:-1]]
    if len(dict(steps)) < len(steps):
        return Twice
    found = re.compile(rf"(?<!\S)@?{NAME}(?!\S)")
    if not set(found.findall(parts[0][4:])) <= {"x", "y", "@x", "@far"}:
        return NoName
    if not set(found.findall(parts[-1][6:])) <= {"x", "y"}:
        return NoName
    if not set(dict(steps)) <= {"into", "back", "both"}:
        return NoName
    if not {one for called, one in steps} <= {"add", "both", "farther", "none"}:
        return NoName
    return None if len(steps) == 3 else NoStep


def read(text):
    return read_tie(text, FAR, NEAR)


class Read(unittest.TestCase):
    def test_fields(self):
        tie = read(SOUND)
        self.assertIsInstance(tie, Tie)
        self.assertEqual("@x = x", tie.saying.shown())
        self.assertEqual((("into", "add"), ("back", None), ("both", "both")), tie.table)
        self.assertEqual("y", tie.falling.shown())
        self.assertIs(False, tie.saying.holds({"x": 1, "@x": 2}))
        self.assertEqual(7, tie.falling.worth({"y": 7}))

    def test_a_table_of_tuples(self):
        tie = read(SOUND)
        self.assertEqual([tuple] * 4, [type(one) for one in (tie.table,) + tie.table])
        self.assertIs(None, tie.table[1][1])

    def test_steps_in_any_order(self):
        for steps in itertools.permutations((INTO, BACK, BOTH)):
            tie = read(" ; ".join(("tie yes",) + steps + ("falls 0",)))
            self.assertEqual((("into", "add"), ("back", None), ("both", "both")), tie.table)
            self.assertEqual(f"tie yes ; {STEPS} ; falls 0", shown_tie(tie))

    def test_several_for_one_deed(self):
        tie = read("tie yes ; step into for add ; step back for add ; step both for add ; falls 0")
        self.assertEqual((("into", "add"), ("back", "add"), ("both", "add")), tie.table)

    def test_a_near_machine_without_deeds(self):
        for far, near in ((FAR, STILL), (EMPTY, EMPTY), (FAR, EMPTY), (EMPTY, STILL)):
            tie = read_tie("tie yes ; falls 0", far, near)
            self.assertEqual((), tie.table)
            self.assertEqual("tie yes ; falls 0", shown_tie(tie))

    def test_a_far_machine_without_deeds(self):
        tie = read_tie("tie yes ; step both for none ; step into for none ; step back for none ; falls 0", EMPTY, NEAR)
        self.assertEqual((("into", None), ("back", None), ("both", None)), tie.table)

    def test_deeds_called_alike_in_both(self):
        machine = read_machine("deed go when yes ; deed back when yes")
        tie = read_tie("tie yes ; step back for go ; step go for back ; falls 0", machine, machine)
        self.assertEqual((("go", "back"), ("back", "go")), tie.table)

    def test_ties_as_it_says(self):
        tie = read(SOUND)
        self.assertIs(True, tied(FAR, NEAR, tie, (1, 0), (1, 2)))
        self.assertEqual([(2, 0)], answers(FAR, NEAR, tie, [(0, 0), (1, 0)], "into", (2, 0)))

    def test_blanks_of_any_number(self):
        for text in TEXTS:
            for ahead, between, behind in ((1, 1, 0), (0, 1, 1), (2, 3, 4), (0, 50, 700)):
                self.assertEqual(text, shown_tie(read(blanks(text, ahead, between, behind))))

    def test_nothing_is_changed(self):
        shown = (shown_machine(FAR), shown_machine(NEAR))
        self.assertEqual(read(SOUND).table, read(SOUND).table)
        self.assertIsNot(read(SOUND), read(SOUND))
        self.assertEqual(shown, (shown_machine(FAR), shown_machine(NEAR)))


class Refused(unittest.TestCase):
    def assert_refused(self, asked, *texts):
        for text in texts:
            with self.subTest(text=text):
                self.assertIs(asked, refusal(read, text))

    def test_no_words(self):
        self.assert_refused(NoText, "", "   ")

    def test_semicolons(self):
        self.assert_refused(
            NoText, ";", "; ;", f"{SOUND} ;", f"; {SOUND}", SOUND.replace(" ; ", " ; ; ", 1), SOUND.replace(" ; ", " "),
            SOUND.replace(" ; ", " , "), SOUND.replace(" ; falls", " falls"), SOUND.replace(" ; step", " step", 1))

    def test_parts_left_out(self):
        self.assert_refused(NoText, f"{STEPS} ; falls y", f"tie yes ; {STEPS}", STEPS, "tie yes", "falls 0", INTO,
                            "falls 0 ; tie yes", "tie ; falls 0", "tie yes ; falls", "yes ; falls 0", "tie yes ; 0")

    def test_parts_in_the_wrong_order(self):
        self.assert_refused(NoText, f"falls y ; {STEPS} ; tie yes", f"{STEPS} ; tie yes ; falls y",
                            f"tie yes ; falls y ; {STEPS}", f"tie yes ; {INTO} ; falls y ; {BACK} ; {BOTH}",
                            f"{INTO} ; tie yes ; {BACK} ; {BOTH} ; falls y")

    def test_parts_twice(self):
        self.assert_refused(NoText, f"tie yes ; tie yes ; {STEPS} ; falls y", f"tie yes ; {STEPS} ; falls y ; falls y",
                            f"tie yes ; {STEPS} ; tie yes ; falls y")

    def test_parts_of_machines(self):
        for part in ("keep yes", "name x from 0 to 1 at 0", "deed go when yes", "x = 1"):
            self.assert_refused(NoText, part, f"tie yes ; {STEPS} ; {part} ; falls y", f"{part} ; falls y")

    def test_of_the_saying(self):
        for saying in ("", "x", "1", "yes yes", "( yes )", "[ yes ]", "x = 1 , y = 1", "yes for yes"):
            self.assert_refused(NoText, f"tie {saying} ; {STEPS} ; falls y")

    def test_of_the_sum(self):
        for one in ("", "yes", "x = 1", "x y", "( x )", "x + y", "[ x + y ]", "none"):
            self.assert_refused(NoText, f"tie yes ; {STEPS} ; falls {one}")

    def test_of_steps(self):
        for step in ("step", "step into", "step into for", "step for add", "into for add", "step into add",
                     "step into for add add", "step into for add , back for none", "step @into for add",
                     "step into for @add", "step none for add", "step into for 1", "step 1 for add", "step into for yes",
                     "step into for none none", "step into for for", "step into for ( add )"):
            self.assert_refused(NoText, f"tie yes ; {step} ; {BACK} ; {BOTH} ; falls y",
                                f"tie yes ; {BACK} ; {BOTH} ; {step} ; falls y")

    def test_any_number_of_steps_is_no_other_shape(self):
        self.assert_refused(Twice, f"tie yes ; {' ; '.join([INTO] * 40)} ; falls y")
        self.assert_refused(NoName, "tie yes ; " + " ; ".join(
            f"step {one}{other} for add" for one in "abcdef" for other in "ghijkl") + " ; falls y")

    def test_two_steps_of_one_deed(self):
        self.assert_refused(Twice, f"tie yes ; {STEPS} ; {INTO} ; falls y", f"tie yes ; {INTO} ; {STEPS} ; falls y",
                            f"tie yes ; {STEPS} ; step into for none ; falls y",
                            f"tie yes ; step both for add ; {STEPS} ; falls y",
                            f"tie yes ; {STEPS} ; step back for both ; falls y")

    def test_names_of_the_saying(self):
        for name in ("q", "far", "@y", "@q", "add", "into", "@into", "xx", "@xx"):
            self.assert_refused(NoName, f"tie {name} = 1 ; {STEPS} ; falls y",
                                f"tie [ x = 1 or [ not @x = ( 1 + {name} ) ] ] ; {STEPS} ; falls y")
        for name in ("x", "y", "@x", "@far"):
            self.assert_refused(None, f"tie {name} = 1 ; {STEPS} ; falls y")

    def test_names_of_the_sum(self):
        for name in ("q", "far", "@x", "@far", "@y", "into", "xx"):
            self.assert_refused(NoName, f"tie yes ; {STEPS} ; falls {name}",
                                f"tie yes ; {STEPS} ; falls ( x + ( y * {name} ) )")
        for name in ("x", "y"):
            self.assert_refused(None, f"tie yes ; {STEPS} ; falls {name}")

    def test_deeds_of_steps(self):
        for called in ("add", "farther", "x", "int", "intoo", "go"):
            self.assert_refused(NoName, f"tie yes ; {STEPS} ; step {called} for add ; falls y",
                                f"tie yes ; step {called} for none ; {STEPS} ; falls y")
        for called in ("into", "back", "x", "ad", "addd", "far"):
            self.assert_refused(NoName, f"tie yes ; step into for {called} ; {BACK} ; {BOTH} ; falls y",
                                f"tie yes ; {INTO} ; {BACK} ; step both for {called} ; falls y")

    def test_a_deed_without_a_step(self):
        steps = (INTO, BACK, BOTH)
        for number in range(3):
            for some in itertools.permutations(steps, number):
                self.assert_refused(NoStep, " ; ".join(("tie yes",) + some + ("falls y",)))

    def test_machines_without_names(self):
        self.assertIs(NoName, refusal(read_tie, "tie x = 1 ; falls 0", FAR, EMPTY))
        self.assertIs(NoName, refusal(read_tie, "tie @x = 1 ; falls 0", EMPTY, STILL))
        self.assertIs(NoName, refusal(read_tie, "tie yes ; falls x", FAR, EMPTY))
        self.assertIs(NoName, refusal(read_tie, f"tie yes ; {INTO} ; falls 0", FAR, EMPTY))
        self.assertIs(NoName, refusal(read_tie, f"tie yes ; {INTO} ; falls 0", EMPTY, NEAR))

    def test_one_word_spoiled(self):
        for text in TEXTS[:3]:
            for one in spoiled(text):
                self.assertIs(due(one), refusal(read, one), one)

    def test_names_exchanged(self):
        for text in TEXTS:
            self.assertIs(None, due(text), text)
            pieces = text.split()
            for place in range(len(pieces)):
                for word in ("into", "back", "both", "add", "farther", "x", "@far", "far", "none"):
                    one = " ".join(pieces[:place] + [word] + pieces[place + 1:])
                    self.assertIs(due(one), refusal(read, one), one)


# By rank; of each refusal what is exchanged in a sound text for it.
FAULTS = (
    (NoText, (("yes", "Yes"), ("step back for none", "step back for None"), ("falls y", "falls 100"))),
    (TooMany, (("yes", long_saying(301)), ("yes", squares(9)), ("falls y", "falls " + "( 1 + " * 9 + "x" + " )" * 9))),
    (NoText, (("tie", "keep"), ("step back for none", "step back none"), ("falls y", "falls"), ("falls y", "falls y ;"))),
    (Twice, (("step both for both", "step both for both ; step both for none"),
             ("step back for none", "step back for none ; step back for none"))),
    (NoName, (("yes", "q = 1"), ("yes", "@y = 1"), ("step back for none", "step back for none ; step q for none"),
              ("step back for none", "step back for q"), ("falls y", "falls q"), ("falls y", "falls @x"))),
    (NoStep, (("step into for add ; ", ""), (" ; step into for add", ""))),
)


class Order(unittest.TestCase):
    """Each step stands at each place, so that one fault lies ahead of the other and behind it."""

    def texts(self):
        for steps in itertools.permutations((INTO, BACK, BOTH)):
            yield " ; ".join(("tie yes",) + steps + ("falls y",))

    def test_each_alone(self):
        for asked, exchanges in FAULTS:
            for text, (old, new) in itertools.product(self.texts(), exchanges):
                if old in text:
                    with self.subTest(asked=asked, old=old, new=new):
                        self.assertIs(asked, refusal(read, text.replace(old, new, 1)))

    def test_each_two_in_every_order(self):
        looked = set()
        for (asked, exchanges), (later, others) in itertools.combinations(FAULTS, 2):
            for text, one, other in itertools.product(self.texts(), exchanges, others):
                if one[0] == other[0] or one[0] not in text or other[0] not in text.replace(*one, 1):
                    continue
                spoilt = text.replace(*one, 1).replace(*other, 1)
                looked.add((asked, later))
                with self.subTest(asked=asked, later=later, text=spoilt):
                    self.assertIs(asked, refusal(read, spoilt))
        self.assertEqual({(one[0], other[0]) for one, other in itertools.combinations(FAULTS, 2)}, looked)

    def test_both_in_one_part(self):
        for asked, text in (
            (NoText, f"tie X {long_saying(301)} ; {STEPS} ; falls y"),
            (NoText, f"tie Q = 1 ; {STEPS} ; falls y"),
            (TooMany, f"tie {squares(9)} yes ; {STEPS} ; falls y"),
            (TooMany, f"tie q = 1 and {squares(9)} ; {STEPS} ; falls y"),
            (NoText, f"tie q ; {STEPS} ; falls y"),
            (NoText, f"tie yes ; {STEPS} ; {BACK} {BACK} ; falls y"),
            (Twice, f"tie yes ; {STEPS} ; step q for add ; step q for add ; falls y"),
            (Twice, f"tie yes ; {STEPS} ; step both for q ; falls y"),
            (Twice, f"tie yes ; {INTO} ; {INTO} ; falls y"),
            (NoName, f"tie yes ; step q for add ; {BACK} ; {BOTH} ; falls y"),
            (NoName, "tie yes ; step into for q ; falls y"),
        ):
            with self.subTest(text=text):
                self.assertIs(asked, refusal(read, text))

    def test_all_at_once(self):
        text = f"tie q = 1 ; {BACK} ; {BACK} ; falls y"
        self.assertIs(Twice, refusal(read, text))
        self.assertIs(NoText, refusal(read, f"{text} ;"))
        self.assertIs(TooMany, refusal(read, text.replace("q = 1", squares(9)) + " ;"))
        self.assertIs(NoText, refusal(read, text.replace("q = 1", squares(9)) + " ; X"))


class Bounds(unittest.TestCase):
    def test_300_and_301_words(self):
        saying = long_saying(297)
        shorter = saying.replace("[ yes and yes ]", "yes", 1)
        for number, words, asked in ((297, shorter, None), (300, shorter.replace("yes", "[ not yes ]", 1), None),
                                     (301, saying, TooMany)):
            text = f"tie {words} ; falls 0"
            self.assertEqual(number, len(text.split()))
            self.assertIs(asked, refusal(read_tie, text, EMPTY, EMPTY))
            self.assertIs(NoText, refusal(read_tie, text.replace("yes", "Yes", 1), EMPTY, EMPTY))
            # The same number of words, but a sum where a saying is asked.
            self.assertIs(asked or NoText, refusal(read_tie, text.replace("yes", "x", 1), EMPTY, EMPTY))

    def test_eight_and_nine_brackets(self):
        deep = "( 1 + " * 8 + "x" + " )" * 8
        text = f"tie {squares(8)} ; {STEPS} ; falls y"
        self.assertEqual(text, shown_tie(read(text)))
        self.assertIs(TooMany, refusal(read, f"tie {squares(9)} ; {STEPS} ; falls y"))
        text = f"tie yes ; {STEPS} ; falls {deep}"
        self.assertEqual(text, shown_tie(read(text)))
        self.assertIs(TooMany, refusal(read, text.replace("x )", "( x - 1 ) )")))


class Shown(unittest.TestCase):
    def test_read_and_shown_and_read_again(self):
        for text in TEXTS:
            with self.subTest(text=text):
                shown = shown_tie(read(text))
                self.assertEqual(text, shown)
                again = read(shown)
                self.assertEqual((text, read(text).table), (shown_tie(again), again.table))

    def test_made_by_hand(self):
        tie = Tie(read_saying("@x = x"), (("a", "b"), ("b", None), ("c", "b")), read_sum("( 3 - x )"))
        asked = "tie @x = x ; step a for b ; step b for none ; step c for b ; falls ( 3 - x )"
        self.assertEqual(asked, shown_tie(tie))
        self.assertEqual(asked, shown_tie(tie))


if __name__ == "__main__":
    unittest.main()
