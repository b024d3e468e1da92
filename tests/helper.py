"""The document's shapes told once more in another way than the program tells them, and texts with one word spoiled."""

import re

OWN_WORDS = "name from to at keep deed when do any and or not yes tie step for none falls".split()
SIGNS = "+ - * ( ) [ ] < <= = != ; ,".split()
VOCABULARY = OWN_WORDS + SIGNS + ["0", "7", "x", "y", "@x"]

NAME = "(?!(?:" + "|".join(OWN_WORDS) + ")(?: |$))[a-z]{1,8}"
NUMBER = "(?:0|[1-9][0-9]?)"


def sum_pattern(depth):
    pattern = f"(?:{NUMBER}|@?{NAME})"
    leaf = pattern
    for step in range(depth):
        pattern = rf"(?:{leaf}|\( {pattern} [-+*] {pattern} \))"
    return pattern


# Deep enough for the texts of the tests, and for one bracket more.
SUM = sum_pattern(3)


def saying_pattern(depth):
    leaf = f"(?:yes|{SUM} (?:<|<=|=|!=) {SUM})"
    pattern = leaf
    for step in range(depth):
        pattern = rf"(?:{leaf}|\[ {pattern} (?:and|or) {pattern} \]|\[ not {pattern} \])"
    return pattern


SAYING = saying_pattern(2)


def matches(pattern, text):
    return re.fullmatch(pattern, " ".join(text.split())) is not None


def spoiled(text):
    """Texts of the words of text with one left out, put in, twice or exchanged."""
    pieces = text.split()
    told = []
    for place in range(len(pieces) + 1):
        ahead, behind = pieces[:place], pieces[place:]
        for word in VOCABULARY:
            told.append(ahead + [word] + behind)
        if behind:
            told.append(ahead + behind[1:])
            told.append(ahead + behind[:1] + behind)
            for word in VOCABULARY:
                told.append(ahead + [word] + behind[1:])
        if len(behind) > 1:
            told.append(ahead + [behind[1], behind[0]] + behind[2:])
    return [" ".join(one) for one in told]


def blanks(text, ahead, between, behind):
    return " " * ahead + (" " * between).join(text.split(" ")) + " " * behind


def refusal(call, *arguments):
    """The class that a call is refused with, or None."""
    try:
        call(*arguments)
    except Exception as error:
        return type(error)
    return None


def parts_of(text):
    parts = [[]]
    for piece in text.split():
        if piece == ";":
            parts.append([])
        else:
            parts[-1].append(piece)
    return [" ".join(part) for part in parts]


def balanced(joins, leaf, form):
    """A leaf joined with itself so many times, as flat as can be."""
    if joins == 0:
        return leaf
    one = (joins - 1) // 2
    return form.format(balanced(one, leaf, form), balanced(joins - 1 - one, leaf, form))


def long_saying(number):
    """A saying of so many words, 297 to 301."""
    if number == 301:
        return balanced(75, "yes", "[ {} and {} ]")
    leaf = {297: "yes", 299: "1 < 2", 300: "[ not yes ]"}[number]
    return balanced(74, "yes", "[ {} and {} ]").replace("yes", leaf, 1)


def squares(depth, inner="yes"):
    return "[ not " * depth + inner + " ]" * depth
