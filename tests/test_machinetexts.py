"""Points 8 and 10, points 4 and 7 as the reader of machines keeps them, and point 2 of what it tells."""

import itertools
import re
import unittest

from nearerwork.changes import Any, Deed, Put
from nearerwork.errors import NoName, NoRange, NoText, TooMany, Twice
from nearerwork.machines import Machine
from nearerwork.machinetexts import read_machine, shown_machine
from nearerwork.phrases import read_saying, read_sum
from nearerwork.sayings import Saying
from tests.helper import (
    NAME, NUMBER, SAYING, SUM, blanks, long_saying, matches, parts_of, refusal, spoiled, squares,
)

PLACE = rf"name ({NAME}) from ({NUMBER}) to ({NUMBER}) at ({NUMBER})"
KEEP = f"keep {SAYING}"
CHANGE = f"{NAME} (?:= {SUM}|any {SUM} to {SUM})"
DEED = f"deed {NAME} when {SAYING}(?: do {CHANGE}(?: , {CHANGE})*)?"

X = "name x from 0 to 3 at 1"
Y = "name y from 1 to 4 at 2"
Z = "name z from 95 to 99 at 99"
GO = "deed go when x < 3 do x = ( x + 1 )"
TEXTS = (
    "",
    X,
    "keep yes",
    "deed go when yes",
    f"{X} ; {Y}",
    f"{X} ; {Y} ; {Z}",
    f"{X} ; keep x <= 3",
    f"{X} ; {GO}",
    "keep yes ; deed go when 1 < 2",
    "keep yes ; keep [ not yes ] ; keep 1 = 2 ; keep [ yes or 0 != 1 ]",
    f"{X} ; {Y} ; keep x <= y ; keep [ x < 3 or y = 4 ] ; {GO} ; deed rest when [ not x < y ] do y any x to ( x + 1 )",
    f"{X} ; {Y} ; {Z} ; deed all when yes do x = y , y any 1 to x , z = ( z - 1 )",
    f"{X} ; {Y} ; deed two when yes do y any 0 to 99 , x any y to ( 9 * y )",
    "deed a when yes ; deed b when yes ; deed c when yes ; deed d when yes ; deed e when yes ; deed f when yes",
    f"{X} ; {Y} ; deed x when x = 1 ; deed y when yes do y = x",
    f"{Y} ; {X} ; keep yes ; deed go when yes do x = y ; deed back when yes do y = x , x = y",
)


def due(text):
    """The refusal that point 8 tells for a text of words, not too long or deep."""
    if text == "":
        return None
    parts = parts_of(text)
    kinds = "".join(part[:1] for part in parts)
    patterns = {"n": PLACE, "k": KEEP, "d": DEED}
    if not all(part and part[0] in patterns and matches(patterns[part[0]], part) for part in parts):
        return NoText
    if not re.fullmatch("n*k*d*", kinds):
        return NoText
    places = [re.fullmatch(PLACE, part).groups() for part in parts if part[0] == "n"]
    deeds = [part.split()[1] for part in parts if part[0] == "d"]
    changes = [re.findall(r"(?:do|,) (\S+)", part) for part in parts if part[0] == "d"]
    if len(places) > 3 or kinds.count("k") > 4 or len(deeds) > 6 or any(len(one) > 3 for one in changes):
        return TooMany
    if not all(int(low) <= int(start) <= int(high) <= int(low) + 5 for name, low, high, start in places):
        return NoRange
    names = [place[0] for place in places]
    if any(len(set(one)) < len(one) for one in [names, deeds] + changes):
        return Twice
    used = [part.partition("keep ")[2] for part in parts if part[0] == "k"]
    used += [part.partition(" when ")[2] for part in parts if part[0] == "d"]
    for name in re.findall(rf"(?<!\S)@?{NAME}(?!\S)", " ; ".join(used)):
        if name not in names:
            return NoName
    return None


class Read(unittest.TestCase):
    def test_a_text_without_words(self):
        for text in ("", " ", "     "):
            machine = read_machine(text)
            self.assertIsInstance(machine, Machine)
            self.assertEqual(((), (), ()), (machine.places, machine.keeps, machine.deeds))
            self.assertEqual((), machine.first())
            self.assertIs(True, machine.stops(()))

    def test_names(self):
        self.assertEqual((("x", 0, 3, 1),), read_machine(X).places)
        self.assertEqual((("z", 95, 99, 99), ("x", 0, 3, 1), ("y", 1, 4, 2)), read_machine(f"{Z} ; {X} ; {Y}").places)
        self.assertEqual((99, 1, 2), read_machine(f"{Z} ; {X} ; {Y}").first())

    def test_keeps(self):
        machine = read_machine(f"{X} ; keep x < 2 ; keep yes ; keep [ not x = 0 ]")
        self.assertIs(tuple, type(machine.keeps))
        self.assertEqual(["x < 2", "yes", "[ not x = 0 ]"], [keep.shown() for keep in machine.keeps])
        self.assertIs(False, machine.keeps[0].holds({"x": 2}))
        self.assertEqual(((), ()), (read_machine("keep yes").places, read_machine("keep yes").deeds))

    def test_deeds(self):
        machine = read_machine(f"{X} ; {Y} ; {GO} ; deed rest when yes ; deed more when yes")
        self.assertEqual(["go", "rest", "more"], [deed.called for deed in machine.deeds])
        self.assertEqual([1, 0, 0], [len(deed.changes) for deed in machine.deeds])
        self.assertEqual(["x < 3", "yes", "yes"], [deed.when.shown() for deed in machine.deeds])
        self.assertIs(tuple, type(machine.deeds))

    def test_changes_of_both_sorts(self):
        machine = read_machine(f"{X} ; {Y} ; {Z} ; deed go when yes do x = y , z any x to ( y + 90 ) , y = 1")
        changes = machine.deeds[0].changes
        self.assertIs(tuple, type(changes))
        self.assertEqual([Put, Any, Put], [type(change) for change in changes])
        self.assertEqual(["x", "z", "y"], [change.name for change in changes])
        self.assertEqual(["x = y", "z any x to ( y + 90 )", "y = 1"], [change.shown() for change in changes])

    def test_one_to_three_changes(self):
        for changes, room in (("x = 3", (3, 2, 99)), ("x = 3 , y = 4", (3, 4, 99)),
                              ("z = 98 , x = 3 , y = 4", (3, 4, 98))):
            machine = read_machine(f"{X} ; {Y} ; {Z} ; deed go when yes do {changes}")
            self.assertEqual([room], machine.behind((1, 2, 99), "go"))

    def test_a_deed_called_like_a_name(self):
        machine = read_machine(f"{X} ; deed x when x < 3 do x = ( x + 1 )")
        self.assertEqual([(2,)], machine.behind((1,), "x"))

    def test_goes_as_it_says(self):
        machine = read_machine(f"{X} ; {Y} ; {GO} ; deed both when x != y do x = y , y any x to 9")
        self.assertEqual([(2, 2)], machine.behind((1, 2), "go"))
        self.assertEqual([], machine.behind((3, 2), "go"))
        self.assertEqual([(2, 1), (2, 2), (2, 3), (2, 4)], machine.behind((1, 2), "both"))
        self.assertIs(True, machine.stops((3, 3)))

    def test_blanks_of_any_number(self):
        for text in TEXTS:
            for ahead, between, behind in ((1, 1, 0), (0, 1, 1), (2, 3, 4), (0, 50, 700)):
                self.assertEqual(text, shown_machine(read_machine(blanks(text, ahead, between, behind))))

    def test_new_each_time(self):
        for text in ("", TEXTS[10]):
            one, other = read_machine(text), read_machine(text)
            self.assertIsNot(one, other)
            self.assertEqual(one.places, other.places)
            self.assertEqual(shown_machine(one), shown_machine(other))


class NoTexts(unittest.TestCase):
    def assert_no_text(self, *texts):
        for text in texts:
            with self.subTest(text=text):
                self.assertIs(NoText, refusal(read_machine, text))

    def test_semicolons_too_many(self):
        self.assert_no_text(";", "; ;", f"; {X}", f"{X} ;", f"{X} ; ; {Y}", f"{X} ; ; {GO}", f"{X} ; {GO} ;",
                            "; keep yes", "keep yes ;", "deed go when yes ; ; deed rest when yes")

    def test_semicolons_too_few(self):
        self.assert_no_text(f"{X} {Y}", f"{X} {GO}", "keep yes keep yes", "deed a when yes deed b when yes",
                            f"{X} , {Y}", f"{X} keep yes")

    def test_the_wrong_order(self):
        self.assert_no_text(f"keep yes ; {X}", f"{GO} ; {X}", f"deed go when yes ; {X}", "deed go when yes ; keep yes",
                            f"{X} ; keep yes ; {Y}", f"{X} ; {GO} ; {Y}", f"{X} ; {GO} ; keep yes",
                            f"{X} ; keep yes ; {GO} ; keep yes ; deed b when yes")

    def test_other_parts(self):
        self.assert_no_text("x", "yes", "tie yes", "step go for none", "falls 0", f"{X} ; tie yes", f"{X} ; x = 1",
                            f"{X} ; 1", "do x = 1", f"{X} ; do x = 1")

    def test_of_names(self):
        self.assert_no_text(
            "name", "name x", "name x from 0 to 3", "name x from 0 at 1", "name x to 3 at 1", "name from 0 to 3 at 1",
            "name x from 0 to 3 at", "name x from to 3 at 1", "name x from 0 to at 1", "name x to 3 from 0 at 1",
            "name x at 1 from 0 to 3", "name @x from 0 to 3 at 1", "name 1 from 0 to 3 at 1", "name x from y to 3 at 1",
            "name x from 0 to y at 1", "name x from 0 to 3 at y", "name x from ( 0 + 0 ) to 3 at 1",
            "name x from 0 to 3 at 1 1", "name x y from 0 to 3 at 1", "name at from 0 to 3 at 1",
            "name x from - 1 to 3 at 1", "name x = 1")

    def test_of_keeps(self):
        self.assert_no_text("keep", "keep keep yes", "keep 1", f"{X} ; keep x", "keep yes yes", "keep ( yes )",
                            "keep [ yes ]", "keep yes , yes", f"{X} ; keep ( x < 1 )", "keep yes do x = 1",
                            "keep a when yes")

    def test_of_deeds(self):
        self.assert_no_text(
            "deed", "deed go", "deed go when", "deed when yes", "deed @go when yes", "deed 1 when yes", "deed do when yes",
            "deed go yes", "deed go when 1", "deed go when yes yes", "deed go for yes", f"{X} ; deed go do x = 1",
            f"{X} ; deed go when yes x = 1", f"{X} ; deed go do x = 1 when yes", "deed go rest when yes")

    def test_of_changes(self):
        for changes in ("", "x", "x =", "= 1", "x 1", "x = 1 ,", ", x = 1", "x = 1 , , x = 2", "x = 1 x = 2", "x any",
                        "x any 1", "x any 1 to", "x any to 2", "x any 1 2", "x = 1 to 2", "x any 1 , x = 2", "1 = x",
                        "x < 1", "x != 1", "x = yes", "x = x < 1", "( x = 1 )", "x = x + 1", "@x = 1", "@x any 1 to 2",
                        "x = 1 do x = 2", "x = 1 and x = 2", "x = ( 1", "x = 1 )", "any = 1", "x = any 1 to 2",
                        "x any = 1 to 2", "( x + 1 ) = 2", "x = 1 ; x = 2"):
            self.assert_no_text(f"{X} ; deed go when yes do {changes}")
            self.assert_no_text(f"{X} ; deed go when yes do x = 1 , {changes}")

    def test_one_word_spoiled(self):
        for text in TEXTS[6:8] + TEXTS[10:13] + TEXTS[14:]:
            for one in spoiled(text):
                self.assertIs(due(one), refusal(read_machine, one), one)

    def test_the_oracle_takes_the_texts(self):
        for text in TEXTS:
            self.assertIs(None, due(text), text)


class Edges(unittest.TestCase):
    """For each refusal texts that are due it and nothing else, and others just within."""

    def assert_read(self, *texts):
        for text in texts:
            with self.subTest(text=text):
                self.assertIs(None, refusal(read_machine, text))

    def assert_refused(self, asked, *texts):
        for text in texts:
            with self.subTest(text=text):
                self.assertIs(asked, refusal(read_machine, text))

    def test_three_names_and_four(self):
        names = [f"name {name} from 0 to 3 at 1" for name in "abcdef"]
        self.assert_read(*[" ; ".join(names[:number]) for number in range(4)])
        self.assert_refused(TooMany, " ; ".join(names[:4]), " ; ".join(names[:5]), " ; ".join(names))

    def test_four_keeps_and_five(self):
        self.assert_read(*[" ; ".join(["keep yes"] * number) for number in range(5)])
        self.assert_refused(TooMany, " ; ".join(["keep yes"] * 5), " ; ".join(["keep yes"] * 6))

    def test_six_deeds_and_seven(self):
        deeds = [f"deed {called} when yes" for called in "abcdefgh"]
        self.assert_read(*[" ; ".join(deeds[:number]) for number in range(7)])
        self.assert_refused(TooMany, " ; ".join(deeds[:7]), " ; ".join(deeds))

    def test_three_changes_and_four(self):
        three = f"{X} ; {Y} ; {Z} ; deed go when yes do x = 1 , y = 1 , z = 99"
        self.assert_read(three, f"{three} ; deed rest when yes do z = 98 , y = 2 , x = 0")
        # Four changes can't be due this alone: three names have no fourth change without one of them twice.
        self.assert_refused(TooMany, f"{three} , x = 2", f"{three} , a = 2", f"{three} , x = 2 , y = 2",
                            f"{three} ; deed rest when yes do x = 1 , y = 1 , z = 1 , a any 0 to 1",
                            f"{three} , x = 1 ; deed rest when yes")

    def test_all_at_their_most(self):
        names = " ; ".join([X, Y, Z])
        keeps = " ; ".join(["keep x <= 3"] * 4)
        deeds = " ; ".join(f"deed {called} when yes do x = 1 , y = 1 , z = 99" for called in "abcdef")
        self.assert_read(f"{names} ; {keeps} ; {deeds}")

    def test_ranges(self):
        for low, high, start in itertools.product(range(9), repeat=3):
            text = f"name x from {low} to {high} at {start}"
            asked = None if low <= start <= high <= low + 5 else NoRange
            self.assert_refused(asked, text, f"{Y} ; {text}", f"{text} ; {Y} ; keep yes")

    def test_ranges_of_two_figures(self):
        self.assert_read("name x from 94 to 99 at 94", "name x from 94 to 99 at 99", "name x from 9 to 14 at 10",
                         "name x from 99 to 99 at 99", "name x from 0 to 0 at 0")
        self.assert_refused(NoRange, "name x from 93 to 99 at 95", "name x from 9 to 15 at 10", "name x from 10 to 9 at 9",
                            "name x from 10 to 12 at 9", "name x from 9 to 11 at 12", "name x from 0 to 99 at 5")

    def test_two_names_alike(self):
        self.assert_refused(Twice, f"{X} ; {X}", f"{X} ; {Y} ; name x from 5 to 6 at 5", f"{Y} ; {X} ; {X}",
                            "name x from 0 to 1 at 0 ; name y from 0 to 1 at 0 ; name x from 0 to 1 at 0")
        self.assert_read("name x from 0 to 1 at 0 ; name xx from 0 to 1 at 0 ; name xxx from 0 to 1 at 0")

    def test_two_deeds_alike(self):
        self.assert_refused(Twice, "deed go when yes ; deed go when yes",
                            f"{X} ; {GO} ; deed rest when yes ; deed go when yes do x = 0",
                            "deed a when yes ; deed b when yes ; deed b when 1 = 2")
        self.assert_read("deed go when yes ; deed gone when yes ; deed g when yes", f"{X} ; deed x when yes")

    def test_two_changes_of_one_name(self):
        self.assert_refused(Twice, f"{X} ; deed go when yes do x = 1 , x = 2",
                            f"{X} ; deed go when yes do x = 1 , x = 1",
                            f"{X} ; {Y} ; deed go when yes do x = 1 , y = 2 , x any 0 to 1",
                            f"{X} ; deed a when yes do x = 1 ; deed go when yes do x any 0 to 1 , x any 0 to 1")
        self.assert_read(f"{X} ; deed go when yes do x = 1 ; deed rest when yes do x = 1",
                         f"{X} ; {Y} ; deed go when yes do x = x , y = x")

    def test_names_that_are_not_told(self):
        for name in ("q", "y", "go", "xx", "@x", "@q"):
            self.assert_refused(
                NoName,
                f"{X} ; keep {name} < 1", f"{X} ; keep yes ; keep [ x = 1 or [ not 1 = ( x + {name} ) ] ]",
                f"keep {name} < 1", f"{X} ; deed go when {name} = 1", f"deed go when {name} = 1",
                f"{X} ; {GO} ; deed rest when [ yes and x < {name} ] do x = 1",
                f"{X} ; deed go when yes do x = {name}", f"{X} ; deed go when yes do x = ( 1 + ( {name} * 2 ) )",
                f"{X} ; deed go when yes do x any {name} to 1", f"{X} ; deed go when yes do x any 1 to {name}",
                f"{X} ; {Z} ; deed go when yes do z = 99 , x = {name}")

    def test_a_change_s_own_name_that_is_not_told(self):
        for name in ("q", "y", "go", "xx"):
            self.assert_refused(NoName, f"{X} ; deed go when yes do {name} = 1", f"deed go when yes do {name} = 1",
                                f"{X} ; deed go when yes do x = 1 , {name} any 0 to 1")

    def test_a_change_s_own_far_name(self):
        # x is to be a name: with a far name in its place the text has not the told shape.
        self.assert_refused(NoText, f"{X} ; deed go when yes do @x = 1", f"{X} ; deed go when yes do @x any 0 to 1")


NAMES = [f"name {name} from 0 to 1 at 0" for name in ("aa", "bb", "cc", "dd")]
DEEDS = [f"deed {called} when yes" for called in ("aa", "bb", "cc", "dd", "ee", "ff", "gg")]
FOUR = "deed four when yes do x = 0 , aa = 0 , bb = 0 , cc = 0"
# By rank; of each refusal the parts that are put to a sound machine for it.
FAULTS = (
    (NoText, (["keep X < 1"], ["name x1 from 0 to 1 at 0"], ["deed go! when yes"], ["keep 100 < 1"])),
    (TooMany, ([f"keep {long_saying(301)}"], [f"keep {squares(9)}"], [f"deed deep when {squares(9)}"])),
    (NoText, (["keep"], ["name s from 0 to 1"], ["deed s yes"], ["deed s when yes do"], ["deed s when yes do @x = 1"])),
    (TooMany, (NAMES, ["keep yes"] * 4, DEEDS, [FOUR], NAMES[:2] + [FOUR])),
    (NoRange, (["name r from 3 to 4 at 2"], ["name r from 3 to 4 at 5"], ["name r from 3 to 9 at 5"])),
    (Twice, (["name x from 0 to 1 at 0"], ["deed go when yes"], ["deed t when yes do x = 1 , x = 2"])),
    (NoName, (["keep q = 1"], ["deed u when q = 1"], ["deed u when yes do q = 1"], ["deed u when yes do x = q"],
              ["keep @x = 1"], ["deed u when yes do x any @x to 1"])),
)
SOUND = ["name x from 0 to 3 at 1", "keep x <= 3", "deed go when x < 3 do x = ( x + 1 )"]


def put_together(parts):
    return " ; ".join(sorted(parts, key=lambda part: "nkd".index(part[0])))


class Order(unittest.TestCase):
    def test_sound(self):
        self.assertIs(None, refusal(read_machine, put_together(SOUND)))

    def test_each_alone(self):
        for asked, variants in FAULTS:
            for parts in variants:
                if FOUR in parts:
                    continue
                for text in (put_together(SOUND + parts), put_together(parts + SOUND)):
                    with self.subTest(asked=asked, text=text):
                        self.assertIs(asked, refusal(read_machine, text))

    def test_each_two_in_every_order(self):
        for (asked, variants), (later, others) in itertools.combinations(FAULTS, 2):
            for one, other in itertools.product(variants, others):
                for parts in itertools.permutations((one, other, SOUND)):
                    text = put_together(sum(parts, []))
                    with self.subTest(asked=asked, later=later, text=text):
                        self.assertIs(asked, refusal(read_machine, text))

    def test_all_at_once(self):
        for first in range(len(FAULTS)):
            parts = sum([variants[0] for asked, variants in FAULTS[first:]], [])
            self.assertIs(FAULTS[first][0], refusal(read_machine, put_together(SOUND + parts)))
            self.assertIs(FAULTS[first][0], refusal(read_machine, put_together(parts + SOUND)))

    def test_shape_by_semicolons(self):
        for asked, variants in FAULTS[3:]:
            for parts in variants:
                text = put_together(SOUND + parts)
                for spoilt in (f"{text} ;", f"; {text}", text.replace(" ; ", " ; ; ", 1), f"{text} ; keep yes",
                               f"deed aaa when yes ; {text}"):
                    self.assertIs(NoText, refusal(read_machine, spoilt), spoilt)

    def test_too_many_words_or_brackets_ahead_of_shape(self):
        self.assertIs(TooMany, refusal(read_machine, "; " * 301))
        self.assertIs(NoText, refusal(read_machine, "; " * 300))
        self.assertIs(TooMany, refusal(read_machine, "( " * 9))
        self.assertIs(NoText, refusal(read_machine, "( " * 8))
        self.assertIs(NoText, refusal(read_machine, "( " * 9 + "X"))
        self.assertIs(NoText, refusal(read_machine, "; " * 301 + "X"))


class Bounds(unittest.TestCase):
    def test_300_and_301_words(self):
        text = f"keep {long_saying(299)}"
        self.assertEqual(300, len(text.split()))
        self.assertEqual(text, shown_machine(read_machine(text)))
        self.assertEqual(text, shown_machine(read_machine(blanks(text, 9, 3, 9))))
        longer = f"keep {long_saying(300)}"
        self.assertEqual(301, len(longer.split()))
        self.assertIs(TooMany, refusal(read_machine, longer))
        self.assertIs(NoText, refusal(read_machine, longer.replace("yes", "Yes", 1)))
        self.assertIs(NoText, refusal(read_machine, text.replace("yes", "x", 1)))

    def test_eight_and_nine_brackets(self):
        for form in ("keep {}", "deed go when {}", "keep yes ; deed go when {}"):
            self.assertEqual(form.format(squares(8)), shown_machine(read_machine(form.format(squares(8)))))
            self.assertIs(TooMany, refusal(read_machine, form.format(squares(9))))
        deep = "( 1 + " * 8 + "x" + " )" * 8
        for form in (f"{X} ; deed go when yes do x = {{}}", f"{X} ; deed go when yes do x any {{}} to {{}}"):
            text = form.format(deep, deep)
            self.assertEqual(text, shown_machine(read_machine(text)))
            text = form.format(f"( {deep} - 1 )", deep)
            self.assertIs(TooMany, refusal(read_machine, text))


class Shown(unittest.TestCase):
    def test_read_and_shown_and_read_again(self):
        for text in TEXTS:
            with self.subTest(text=text):
                shown = shown_machine(read_machine(text))
                self.assertEqual(text, shown)
                self.assertEqual(text, shown_machine(read_machine(shown)))

    def test_whatever_spoiled_text_is_read(self):
        for text in TEXTS[10:13]:
            for one in spoiled(text):
                if due(one) is None:
                    self.assertEqual(one, shown_machine(read_machine(one)))

    def test_made_by_hand(self):
        machine = Machine(
            (("x", 0, 3, 1), ("y", 10, 15, 12)), (read_saying("x < y"), Saying()),
            (Deed("go", Saying(), (Put("x", read_sum("( x + 1 )")), Any("y", read_sum("0"), read_sum("x")))),
             Deed("rest", read_saying("x = y"), ())))
        asked = ("name x from 0 to 3 at 1 ; name y from 10 to 15 at 12 ; keep x < y ; keep yes ; "
                 "deed go when yes do x = ( x + 1 ) , y any 0 to x ; deed rest when x = y")
        self.assertEqual(asked, shown_machine(machine))
        self.assertEqual(asked, shown_machine(machine))
        self.assertEqual(asked, shown_machine(read_machine(asked)))
        self.assertEqual("", shown_machine(Machine((), (), ())))


if __name__ == "__main__":
    unittest.main()
