"""Numbers of places, dealt out to weights one by one."""


def most_due(weights, given):
    best = 0
    for k in range(1, len(weights)):
        # Two fractions are held against one another by multiplying crosswise,
        # so that nothing is rounded; of like ones the first stays the best.
        if weights[k] * (given[best] + 1) > weights[best] * (given[k] + 1):
            best = k
    return best


def dealt(total, weights):
    given = [0] * len(weights)
    for turn in range(total):
        k = most_due(weights, given)
        given[k] = given[k] + 1
    return tuple(given)
