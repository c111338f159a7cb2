"""What several modules ask of the things that are handed in."""

from parkrow.errors import BadWishes, TooMany

MOST_PLACES = 1000000


def is_number(thing):
    # To Python True and False are whole numbers; here they are none.
    return isinstance(thing, int) and not isinstance(thing, bool)


def check_list(wishes):
    # No refusal shows what was handed in: a number may have more digits than Python writes out.
    if not isinstance(wishes, list):
        raise BadWishes("the wishes are no list")


def check_each(places, wishes):
    for wish in wishes:
        if not is_number(wish) or wish < 0 or wish >= places:
            raise BadWishes("a wish is no place")


def check_street(places, wishes):
    if not is_number(places) or places < 1 or places > MOST_PLACES:
        raise BadWishes("a street has 1 to 1000000 places")
    check_list(wishes)
    check_each(places, wishes)


def check_by_cars(wishes, more):
    # The places are counted by the cars here, so the list must be known to be one before it is counted.
    check_list(wishes)
    check_each(len(wishes) + more, wishes)


def crowd_place(places, wishes):
    # Where a place is crowded, the least wish from it on is crowded too: it has as many cars and
    # no more places. So only the wished places need to be looked at.
    for cars, wish in enumerate(sorted(wishes, reverse=True), start=1):
        if cars > places - wish:
            return wish
    return None


def check_full(wishes):
    check_by_cars(wishes, 0)
    if crowd_place(len(wishes), wishes) is not None:
        raise TooMany("a car drives off")
