"""Words read one by one, as the readers of sums, sayings, machines and ties do it."""

from nearerwork.errors import NoText
from nearerwork.lexis import is_name, is_number


class Reader:
    def __init__(self, pieces):
        self.pieces = pieces
        self.place = 0

    # The text without signs is no word: it stands for the end.
    def ahead(self):
        if self.place < len(self.pieces):
            return self.pieces[self.place]
        return ""

    def take(self):
        piece = self.ahead()
        self.place = self.place + 1
        return piece

    def take_word(self, word):
        piece = self.take()
        if piece != word:
            raise NoText(f"{word!r} is asked for, there is {piece!r}")

    def take_name(self):
        piece = self.take()
        if not is_name(piece):
            raise NoText(f"a name is asked for, there is {piece!r}")
        return piece

    def take_number(self):
        piece = self.take()
        if not is_number(piece):
            raise NoText(f"a number is asked for, there is {piece!r}")
        return int(piece)

    def take_end(self):
        piece = self.ahead()
        if piece != "":
            raise NoText(f"the end is asked for, there is {piece!r}")


# A ; stands within no part, so a text is parted before its parts are read.
def readers_of_parts(pieces):
    parts = [[]]
    for piece in pieces:
        if piece == ";":
            parts.append([])
        else:
            parts[-1].append(piece)
    return [Reader(part) for part in parts]
