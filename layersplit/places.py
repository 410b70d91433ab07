"""Slopes: the place of a point in a layer, and the points with told places."""


def place_of(p, slope, point):
    x = point[0]
    y = point[1]
    if slope == p:
        return y
    return (x + slope * y) % p


def inverse(p, number):
    # Here factor * number leaves the rest behind, divided by p, at each step:
    # rest times -(p // rest) leaves p % rest. As p is a prime and rest lies
    # between 1 and p, p % rest is never 0, so the last rest is 1.
    factor = 1
    rest = number % p
    while rest > 1:
        factor = factor * (p - p // rest) % p
        rest = p % rest
    return factor


def y_at(p, slope, place, other, there):
    if slope == p:
        return place
    if other == p:
        return there
    # Of x + slope * y and x + other * y the difference is without x.
    return (place - there) * inverse(p, slope - other) % p


def x_at(p, slope, place, y):
    return (place - slope * y) % p


def point_at(p, slope, place, other, there):
    y = y_at(p, slope, place, other, there)
    # A layer of the slope p tells nothing of x, so the other one is asked.
    if slope == p:
        return (x_at(p, other, there, y), y)
    return (x_at(p, slope, place, y), y)


def points_at(p, slope, place):
    if slope == p:
        return [(x, place) for x in range(p)]
    return sorted([(x_at(p, slope, place, y), y) for y in range(p)])
