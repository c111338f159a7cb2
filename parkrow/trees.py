"""Trees of cars, counted from 1 on, beneath the root 0, and the full wishes that belong to them."""

from parkrow.checks import check_full, is_list_below_its_length
from parkrow.errors import BadTree


def tree(wishes):
    check_full(wishes)
    # Who waits comes into the row by the turn of the parent, then rising: by the wish, then by the
    # car. Equal wishes stay in their turn when they are sorted.
    row = [0] + sorted(range(1, len(wishes) + 1), key=lambda car: wishes[car - 1])
    return [row[wish] for wish in wishes]


def children_of(parents):
    children = [[] for one in range(len(parents) + 1)]
    for car, parent in enumerate(parents, start=1):
        children[parent].append(car)
    return children


def served(children):
    row = [0]
    turn = 0
    while turn < len(row):
        row.extend(children[row[turn]])
        turn += 1
    return row


def turns_of(row):
    turns = [0] * len(row)
    for turn, one in enumerate(row):
        turns[one] = turn
    return turns


def wishes_of(parents):
    if not is_list_below_its_length(parents, 1):
        raise BadTree("the parents are no list of cars and the root")
    row = served(children_of(parents))
    # Cars whose parents lead around, and all beneath them, never come into the row.
    if len(row) <= len(parents):
        raise BadTree("from a car the root is not come to")
    turns = turns_of(row)
    return [turns[parent] for parent in parents]
