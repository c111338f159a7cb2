"""Wishes as a text: how they are written, and read again."""

from parkrow.checks import check_street, is_each_below, is_street
from parkrow.errors import BadText

FIGURES = "0123456789"
MOST_FIGURES = 7


def written(places, wishes):
    check_street(places, wishes)
    return " ".join([f"{places}:"] + [str(wish) for wish in wishes])


def number(word):
    # No place has more figures, and a far longer row of them Python itself doesn't read.
    if len(word) < 1 or len(word) > MOST_FIGURES:
        raise BadText("a number has 1 to 7 figures")
    for sign in word:
        if sign not in FIGURES:
            raise BadText("a number is written in figures")
    if word[0] == "0" and len(word) > 1:
        raise BadText("a number has no needless nought")
    return int(word)


def read(text):
    if not isinstance(text, str):
        raise BadText("wishes are read from a text")
    words = text.split(" ")
    if not words[0].endswith(":"):
        raise BadText("behind the places stands a colon")
    places = number(words[0][:-1])
    wishes = [number(word) for word in words[1:]]
    if not is_street(places) or not is_each_below(places, wishes):
        raise BadText("the wishes are no places of a street")
    return (places, wishes)
