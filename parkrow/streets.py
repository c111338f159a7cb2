"""A street: where the cars stand, which places they take, and how far they drive on."""

from parkrow.checks import check_full, check_street, crowd_place


class Answer:
    pass


class Parked(Answer):
    def __init__(self, where):
        self.where = list(where)


class Crowd(Answer):
    def __init__(self, place):
        self.place = place


def first_free(onward, wish):
    # Each taken place points at a place further on with none free between. The way is
    # shortened as it is gone, or a long row of taken places would be walked for each car anew.
    place = wish
    while place in onward:
        further = onward[place]
        onward[place] = onward.get(further, further)
        place = onward[place]
    return place


def stands(places, wishes):
    # A car that drives off is told as standing one behind the last place.
    onward = {}
    where = []
    for wish in wishes:
        place = first_free(onward, wish)
        if place < places:
            onward[place] = place + 1
        where.append(place)
    return where


def parked(places, wishes):
    check_street(places, wishes)
    place = crowd_place(places, wishes)
    if place is not None:
        return Crowd(place)
    return Parked(stands(places, wishes))


def taken(places, wishes):
    check_street(places, wishes)
    return sorted([place for place in stands(places, wishes) if place < places])


def driven_off(places, wishes):
    check_street(places, wishes)
    return [car for car, place in enumerate(stands(places, wishes)) if place == places]


def lucky(places, wishes):
    check_street(places, wishes)
    return [car for car, place in enumerate(stands(places, wishes)) if place == wishes[car]]


def drives(wishes):
    check_full(wishes)
    # Full wishes take every place once, so the turn of the cars need not be followed.
    cars = len(wishes)
    return cars * (cars - 1) // 2 - sum(wishes)
