"""Slow and plain tellings of what the document says, and inputs that several tests share.

Long lists are compared by assertTrue: to show where two of them differ, assertEqual takes minutes.
"""

from itertools import product

# Each is no whole number; the last ones look much like one.
NO_NUMBERS = (None, "1", "", [1], (1,), {}, 1.0, 0.5, 1j, b"1", object(), True, False)

# Each is no list, though most could be walked or counted like one.
NO_LISTS = (None, 0, 1, True, "", "0", (), (0,), {}, {0: 0}, set(), frozenset((0,)), range(1), b"", object(), iter([0]))

# More digits than Python turns into a text.
HUGE = 10 ** 5000


# Each is no text, though some could be walked like one.
NO_TEXTS = (None, 0, 5, True, False, 1.5, b"", b"ud", b"5:", [], ["u", "d"], ["5:"], ("ud",), {}, {"ud": 1}, set(), object())


def all_wishes(places, cars):
    return [list(wishes) for wishes in product(range(places), repeat=cars)]


def small_streets():
    """Every street of up to 4 places with every list of wishes of up to 5 cars."""
    return [(places, wishes) for places in range(1, 5) for cars in range(6) for wishes in all_wishes(places, cars)]


def plain_stands(places, wishes):
    """Where each car stands, None for one that drives off."""
    free = [True] * places
    where = []
    for wish in wishes:
        found = [place for place in range(wish, places) if free[place]]
        where.append(found[0] if found else None)
        if found:
            free[found[0]] = False
    return where


def plain_ring(places, wishes):
    free = [True] * places
    where = []
    for wish in wishes:
        place = [(wish + step) % places for step in range(places) if free[(wish + step) % places]][0]
        free[place] = False
        where.append(place)
    return where


def is_full(wishes):
    """Also for wishes beyond the street of as many places: they are not full."""
    return all(wish < len(wishes) for wish in wishes) and None not in plain_stands(len(wishes), wishes)


def all_full(cars):
    return [wishes for wishes in all_wishes(max(cars, 1), cars) if is_full(wishes)]


def plain_row(parents):
    """Who is served in each turn, those alone that are come to from the root."""
    waiting = [0]
    row = []
    while waiting:
        one = waiting.pop(0)
        row.append(one)
        waiting += [car for car in range(1, len(parents) + 1) if parents[car - 1] == one]
    return row


def is_tree(parents):
    for car in range(1, len(parents) + 1):
        for step in range(len(parents)):
            car = parents[car - 1] if car else 0
        if car:
            return False
    return True
