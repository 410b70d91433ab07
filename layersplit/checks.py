"""What houses, deeds and questions are refused with, thing by thing from the left."""

from layersplit.errors import Closed, NoArms, NoDeed, NoHouse, NoMarks, NoNumber, NoRule, NoShuts, NoWord
from layersplit.errors import Taken, Unknown
from layersplit.names import is_guest, is_whole, is_word
from layersplit.points import is_prime
from layersplit.rules import are_marks, is_rule

# How many things a deed has, its first word among them.
LENGTHS = {
    "layer": 3, "trial": 6, "share": 3, "deal": 4, "hold": 3, "pause": 2, "go": 2, "close": 2, "bar": 3, "visit": 3,
}
MOST_ARMS = 4
MOST_SHUTS = 8
MOST_TOTAL = 1000


def is_count(thing):
    return is_whole(thing) and thing >= 0


def is_salt(thing):
    return is_count(thing) and thing <= 10 ** 30


def is_total(thing):
    return is_count(thing) and thing <= MOST_TOTAL


def is_weight(thing):
    return is_whole(thing) and 1 <= thing <= 10 ** 30


def are_counts(thing, many):
    return isinstance(thing, tuple) and len(thing) == many and all([is_count(number) for number in thing])


def are_weights(thing, many):
    return isinstance(thing, tuple) and len(thing) == many and all([is_weight(number) for number in thing])


def are_arms(thing):
    if not isinstance(thing, tuple) or not 1 <= len(thing) <= MOST_ARMS:
        return False
    # The words go first, as there is no set of lists.
    return all([is_word(arm) for arm in thing]) and len(set(thing)) == len(thing)


def check_house(prime, salt):
    if not is_prime(prime) or not is_salt(salt):
        raise NoHouse("this is not a prime and a salt")


def check_word(thing):
    if not is_word(thing):
        raise NoWord("this is no word")


def check_guest(thing):
    if not is_guest(thing):
        raise NoWord("this is no guest's name")


def check_marks(thing):
    if not are_marks(thing):
        raise NoMarks("these are no marks")


def check_rule(thing):
    if not is_rule(thing):
        raise NoRule("this is no rule")


def check_new(thing, names):
    check_word(thing)
    if thing in names:
        raise Taken("this name is taken")


def check_standing(thing, names):
    check_word(thing)
    if thing not in names:
        raise Unknown("none of this name stands")


def check_known(thing, names):
    # A question is refused alike for what is no word and for what stands
    # nowhere. The word goes first, as a dict can't be asked for a list.
    if not is_word(thing) or thing not in names:
        raise Unknown("none of this name stands")


def check_place(thing, prime):
    if not is_count(thing) or thing >= prime:
        raise NoNumber("this is no place")


def check_slope(thing, prime, layers):
    if not is_count(thing) or thing > prime:
        raise NoNumber("this is no slope")
    if thing in [layer.slope for layer in layers.values()]:
        raise Taken("this slope is taken")


def check_arms(thing):
    if not are_arms(thing):
        raise NoArms("these are no arms")


def check_shuts(thing, trials):
    if not isinstance(thing, tuple) or len(thing) > MOST_SHUTS:
        raise NoShuts("these are no shuts")
    for k, name in enumerate(thing):
        check_standing(name, trials)
        if name in thing[:k]:
            raise NoShuts("this name stands ahead already")


def check_count(thing):
    if not is_count(thing):
        raise NoNumber("this is no whole number from 0 on")


def check_shares(thing, many):
    if not are_counts(thing, many):
        raise NoNumber("these are not a number of places for each arm")


def check_dealing(total, weights, many):
    if not is_total(total) or not are_weights(weights, many):
        raise NoNumber("these are not a total and a weight for each arm")


def check_form(deed):
    if not isinstance(deed, tuple) or len(deed) == 0:
        raise NoDeed("this is no deed")
    # The text goes first, as a dict can't be asked for a list.
    if not isinstance(deed[0], str) or LENGTHS.get(deed[0]) != len(deed):
        raise NoDeed("this is no deed")


def check_trial(deed, layers, trials):
    check_new(deed[1], trials)
    check_standing(deed[2], layers)
    check_arms(deed[3])
    check_rule(deed[4])
    check_shuts(deed[5], trials)


def check_open(deed, trials):
    check_standing(deed[1], trials)
    trial = trials[deed[1]]
    many = len(trial.arms)
    if deed[0] == "share":
        check_shares(deed[2], many)
    elif deed[0] == "deal":
        check_dealing(deed[2], deed[3], many)
    if trial.closed:
        raise Closed("the trial is closed")


def check_deed(deed, prime, layers, trials):
    check_form(deed)
    kind = deed[0]
    if kind == "layer":
        check_new(deed[1], layers)
        check_slope(deed[2], prime, layers)
    elif kind == "trial":
        check_trial(deed, layers, trials)
    elif kind == "hold":
        check_standing(deed[1], layers)
        check_count(deed[2])
    elif kind == "bar":
        check_guest(deed[1])
        check_standing(deed[2], trials)
    elif kind == "visit":
        check_guest(deed[1])
        check_marks(deed[2])
    else:
        check_open(deed, trials)
