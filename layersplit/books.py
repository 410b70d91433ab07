"""Books: the house that comes of a prime, a salt and a list of deeds."""

from layersplit.errors import SplitError
from layersplit.house import House


def house_of(prime, salt, deeds):
    house = House(prime, salt)
    for deed in deeds:
        house.do(deed)
    return house


def first_refused(prime, salt, deeds):
    house = House(prime, salt)
    for number, deed in enumerate(deeds):
        try:
            house.do(deed)
        except SplitError:
            return number
    return None
