"""Standings: from how far the cars can have come, and how many wishes lead to one."""

from parkrow.checks import is_list_below_its_length, is_number
from parkrow.errors import BadStanding


def check_standing(standing):
    if not is_list_below_its_length(standing, 0) or len(set(standing)) < len(standing):
        raise BadStanding("a standing is a list of as many cars as places, each once")


def reaches(standing):
    check_standing(standing)
    told = []
    for place, car in enumerate(standing):
        # Where the car ahead came earlier, so did all from its reach on: they need not be walked anew.
        reach = place
        while reach > 0 and standing[reach - 1] < car:
            reach = told[reach - 1]
        told.append(reach)
    return told


def product(factors):
    # Factors of like size are multiplied, two and two: one by one it takes far longer for a long street.
    left = [1] + factors
    while len(left) > 1:
        if len(left) % 2 == 1:
            left.append(1)
        left = [left[at] * left[at + 1] for at in range(0, len(left), 2)]
    return left[0]


def how_many(standing):
    return product([place - reach + 1 for place, reach in enumerate(reaches(standing))])


def check_steps(most, steps):
    if not isinstance(steps, list) or len(steps) != len(most):
        raise BadStanding("the steps are no list of one for each place")
    for step, bound in zip(steps, most):
        if not is_number(step) or step < 0 or step > bound:
            raise BadStanding("a step is no number from 0 to its place's reach")


def from_steps(standing, steps):
    check_steps([place - reach for place, reach in enumerate(reaches(standing))], steps)
    wishes = [0] * len(standing)
    for place, car in enumerate(standing):
        wishes[car] = place - steps[place]
    return wishes
