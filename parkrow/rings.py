"""A ring: where the cars stand on it, and how wishes are turned around it."""

from parkrow.checks import check_by_cars, check_street, is_number
from parkrow.errors import BadWishes, TooMany
from parkrow.streets import first_free


def stands_around(places, wishes):
    onward = {}
    where = []
    for wish in wishes:
        place = first_free(onward, wish)
        onward[place] = (place + 1) % places
        where.append(place)
    return where


def ring(places, wishes):
    check_street(places, wishes)
    if len(wishes) > places:
        raise TooMany("there are more cars than places")
    return stands_around(places, wishes)


def turning(wishes):
    check_by_cars(wishes, 1)
    # One place of the ring stays free. Turned wishes are full just if that place comes to be
    # the last one: then no car has wished it or driven past it.
    cars = len(wishes)
    left_free = cars * (cars + 1) // 2 - sum(stands_around(cars + 1, wishes))
    return cars - left_free


def turned(wishes, by):
    check_by_cars(wishes, 1)
    if not is_number(by):
        raise BadWishes("wishes are turned by a whole number")
    return [(wish + by) % (len(wishes) + 1) for wish in wishes]
