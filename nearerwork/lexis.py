"""The words of a text."""

from nearerwork.errors import NoText, TooMany

LETTERS = "abcdefghijklmnopqrstuvwxyz"
FIGURES = "0123456789"
OWN_WORDS = (
    "name", "from", "to", "at", "keep", "deed", "when", "do", "any",
    "and", "or", "not", "yes", "tie", "step", "for", "none", "falls",
)
SIGNS = ("+", "-", "*", "(", ")", "[", "]", "<", "<=", "=", "!=", ";", ",")
LONGEST_NAME = 8
LONGEST_NUMBER = 2
MOST_WORDS = 300
MOST_OPEN = 8


def words(text):
    # Only the blank parts words: a split without it would part them at tabs and line ends, too.
    pieces = [piece for piece in text.split(" ") if piece != ""]
    for piece in pieces:
        if not is_word(piece):
            raise NoText(f"no word: {piece!r}")
    if len(pieces) > MOST_WORDS:
        raise TooMany("too many words")
    if most_open(pieces) > MOST_OPEN:
        raise TooMany("too many open brackets")
    return pieces


def is_word(piece):
    if piece in OWN_WORDS or piece in SIGNS:
        return True
    return is_number(piece) or is_name(piece) or is_far_name(piece)


def is_number(piece):
    if not made_of(piece, FIGURES, LONGEST_NUMBER):
        return False
    return piece == "0" or not piece.startswith("0")


def is_name(piece):
    return made_of(piece, LETTERS, LONGEST_NAME) and piece not in OWN_WORDS


def is_far_name(piece):
    return piece.startswith("@") and is_name(piece[1:])


def made_of(piece, signs, longest):
    if len(piece) < 1 or len(piece) > longest:
        return False
    return all([sign in signs for sign in piece])


def most_open(pieces):
    most = 0
    count = 0
    for piece in pieces:
        if piece in ("(", "["):
            count = count + 1
        elif piece in (")", "]"):
            # A closing bracket too many must not make room for an open one more.
            count = max(count - 1, 0)
        most = max(most, count)
    return most
