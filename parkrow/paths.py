"""Paths up and down, and the full wishes that belong to them."""

from parkrow.checks import check_full
from parkrow.errors import BadPath


def path(wishes):
    check_full(wishes)
    cars_at = [0] * len(wishes)
    for wish in wishes:
        cars_at[wish] += 1
    return "".join(["u" * cars + "d" for cars in cars_at])


def heights(text):
    if not isinstance(text, str):
        raise BadPath("a path is a text")
    height = 0
    told = []
    for sign in text:
        if sign not in "ud":
            raise BadPath("a path goes up and down alone")
        height += 1 if sign == "u" else -1
        if height < 0:
            raise BadPath("a path never goes below where it begins")
        told.append(height)
    if height > 0:
        raise BadPath("a path ends as high as it begins")
    return told


def beneath(text):
    return sum([height for sign, height in zip(text, heights(text)) if sign == "d"])


def rising(text):
    # Asked for its refusals alone.
    heights(text)
    place = 0
    wishes = []
    for sign in text:
        if sign == "u":
            wishes.append(place)
        else:
            place += 1
    return wishes
