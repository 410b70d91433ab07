"""Counting: how many of all points of a house lie in an arm, and in two arms at once."""


def points_in(house, trial, arm):
    return len(house.places(trial, arm)) * house.prime()


def points_in_both(house, trial, arm, other, there):
    # Both are asked ahead of all else, so that a refusal goes from the left.
    here = house.places(trial, arm)
    theirs = house.places(other, there)
    if house.layer_of(trial) == house.layer_of(other):
        return len([place for place in here if place in theirs]) * house.prime()
    # Two layers have unlike slopes, so each pair of places comes at just one point.
    return len(here) * len(theirs)
