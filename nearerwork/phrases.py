"""Readers of sums and sayings."""

from nearerwork.errors import NoText
from nearerwork.lexis import is_far_name, is_name, is_number, words
from nearerwork.reading import Reader
from nearerwork.sayings import AtMost, Both, Either, Equal, Less, Not, Saying, Unlike
from nearerwork.sums import Minus, Named, Number, Plus, Times


def read_sum(text):
    reader = Reader(words(text))
    read = sum_in(reader)
    reader.take_end()
    return read


def read_saying(text):
    reader = Reader(words(text))
    read = saying_in(reader)
    reader.take_end()
    return read


def sum_in(reader):
    piece = reader.take()
    if is_number(piece):
        return Number(int(piece))
    if is_name(piece) or is_far_name(piece):
        return Named(piece)
    if piece == "(":
        return bracketed_sum_in(reader)
    raise NoText(f"a sum is asked for, there is {piece!r}")


def bracketed_sum_in(reader):
    one = sum_in(reader)
    sign = reader.take()
    other = sum_in(reader)
    reader.take_word(")")
    if sign == "+":
        return Plus(one, other)
    if sign == "-":
        return Minus(one, other)
    if sign == "*":
        return Times(one, other)
    raise NoText(f"+, - or * is asked for, there is {sign!r}")


def saying_in(reader):
    if reader.ahead() == "yes":
        reader.take_word("yes")
        return Saying()
    if reader.ahead() == "[":
        reader.take_word("[")
        return bracketed_saying_in(reader)
    return compared_in(reader)


def compared_in(reader):
    one = sum_in(reader)
    sign = reader.take()
    other = sum_in(reader)
    if sign == "<":
        return Less(one, other)
    if sign == "<=":
        return AtMost(one, other)
    if sign == "=":
        return Equal(one, other)
    if sign == "!=":
        return Unlike(one, other)
    raise NoText(f"<, <=, = or != is asked for, there is {sign!r}")


def bracketed_saying_in(reader):
    if reader.ahead() == "not":
        return denied_in(reader)
    one = saying_in(reader)
    word = reader.take()
    other = saying_in(reader)
    reader.take_word("]")
    if word == "and":
        return Both(one, other)
    if word == "or":
        return Either(one, other)
    raise NoText(f"and or or is asked for, there is {word!r}")


def denied_in(reader):
    reader.take_word("not")
    one = saying_in(reader)
    reader.take_word("]")
    return Not(one)
