"""Primes, and the point that a guest's name is mixed to."""

from layersplit.names import GUEST_SIGNS, is_whole

LEAST_PRIME = 2
GREATEST_PRIME = 997
MIXER = 1009


def is_prime(thing):
    # The bounds go first, so that a number of many figures is not divided.
    if not is_whole(thing) or not LEAST_PRIME <= thing <= GREATEST_PRIME:
        return False
    return all([thing % divisor != 0 for divisor in range(2, thing)])


def point_of(p, salt, guest):
    mixed = salt
    for sign in guest:
        # The signs are numbered from 1 on, an index from 0 on.
        mixed = MIXER * mixed + GUEST_SIGNS.index(sign) + 1
    return divmod(mixed % (p * p), p)
