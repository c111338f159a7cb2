"""What several modules ask of the things that are handed in."""

from parkrow.errors import BadWishes, TooMany

MOST_PLACES = 1000000


def is_number(thing):
    # To Python True and False are whole numbers; here they are none.
    return isinstance(thing, int) and not isinstance(thing, bool)


def is_each_below(bound, things):
    for thing in things:
        if not is_number(thing) or thing < 0 or thing >= bound:
            return False
    return True


def is_list_below_its_length(things, more):
    # The numbers are bounded by how many there are, so the list must be known to be one before it is counted.
    return isinstance(things, list) and is_each_below(len(things) + more, things)


def is_street(places):
    return is_number(places) and places >= 1 and places <= MOST_PLACES


def check_street(places, wishes):
    # No refusal shows what was handed in: a number may have more digits than Python writes out.
    if not is_street(places):
        raise BadWishes("a street has 1 to 1000000 places")
    if not isinstance(wishes, list) or not is_each_below(places, wishes):
        raise BadWishes("the wishes are no list of places of the street")


def check_by_cars(wishes, more):
    if not is_list_below_its_length(wishes, more):
        raise BadWishes("the wishes are no list of places, counted by the cars")


def crowd_place(places, wishes):
    # Where a place is crowded, the least wish from it on is crowded too: it has as many cars and
    # no more places. So only the wished places need to be looked at.
    for cars, wish in enumerate(sorted(wishes, reverse=True), start=1):
        if cars > places - wish:
            return wish
    return None


def check_full(wishes):
    check_by_cars(wishes, 0)
    if crowd_place(len(wishes), wishes) is not None:
        raise TooMany("a car drives off")
