"""A plain reckoning of points 13 to 16 that tests keep beside the house, and what they share."""

import copy
import re
import unittest
from fractions import Fraction

from layersplit.errors import (
    Closed, NoArms, NoDeed, NoMarks, NoNumber, NoRoom, NoRule, NoShuts, NoWord, SplitError, Taken, Unknown,
)
from layersplit.house import House

BIG = 10 ** 30
ANY = ("any",)

# What the things of a deed are, behind its first word.
THINGS = {
    "layer": ("new_layer", "slope"),
    "trial": ("new_trial", "layer", "arms", "rule", "shuts"),
    "share": ("trial", "numbers"),
    "deal": ("trial", "total", "weights"),
    "hold": ("layer", "number"),
    "pause": ("trial",),
    "go": ("trial",),
    "close": ("trial",),
    "bar": ("guest", "trial"),
    "visit": ("guest", "marks"),
}


def wrapped(many, wrap, inmost):
    thing = inmost
    for _ in range(many):
        thing = wrap(thing)
    return thing


# Things of all kinds, none of which is a deed, a word, a guest's name, a rule, marks
# or a number of places; the last of them reach the bounds of any thing, thirty deep
# and five hundred parts.
ODD = (
    None, True, False, -1, -BIG, -10 ** 59, "", " ", "A", "a b", "a\n", "a-b", "a" * 25, "~", "~" * 4000,
    [], [()], [[]], ["a"], ["any"], [1], [0, 0], [("a", 1)], [("any",)], [("layer", "a", 0)], ["layer", "a", 0],
    (None,), (True,), (True, False), (-1,), (0, -1), ([],), ([], []), ("",), ("A", "b"), ("a", "a"), ((),),
    ((), ()), ([], "a"), (["a"], ["b"]), ("a", ["b"]), ("a", None), (("a",), ("b",)), (("a", True),), (("a", 1, 2),),
    (("a", []),), (("a", 1), ("a", 2)), (["a", 1],), (("A", 1),), ("not", []), ("not", "any"), ("least", "a"),
    ("least", "a", True), ("has", ["a"]), ("both", ANY, []), ("deed", "a", "b"), ("Layer", "a", 0), ("layer ", "a", 0),
    wrapped(29, lambda thing: [thing], []), wrapped(29, lambda thing: (thing,), ()),
    wrapped(29, lambda thing: ("not", thing), ANY), wrapped(29, lambda thing: ["a", thing], None),
    ("a",) * 499, ["a"] * 499, (ANY,) * 249, (("a", 1),) * 166, tuple(["a"] for _ in range(249)), (0,) * 499,
    [[0] * 498], ("trial",) + ("a",) * 498, ([0] * 200, (None,) * 200, True),
)


def is_word(thing):
    return type(thing) is str and re.fullmatch("[a-z]{1,12}", thing) is not None


def is_guest(thing):
    return type(thing) is str and re.fullmatch("[a-z0-9]{1,24}", thing) is not None


def is_between(thing, least, most):
    return type(thing) is int and least <= thing <= most


def are_marks(thing):
    if type(thing) is not tuple or len(thing) > 8:
        return False
    for mark in thing:
        if type(mark) is not tuple or len(mark) != 2 or not is_word(mark[0]) or not is_between(mark[1], -BIG, BIG):
            return False
    return len(dict(thing)) == len(thing)


# The depth, the number and the words of a rule, or None where it is none.
def measured(thing, deepest=6):
    if deepest == 0 or type(thing) is not tuple:
        return None
    match thing:
        case ("any",):
            return (1, 1, set())
        case ("has", word) if is_word(word):
            return (1, 1, {word})
        case ("least", word, number) if is_word(word) and is_between(number, -BIG, BIG):
            return (1, 1, {word})
        case ("not", _) | ("both", _, _) | ("either", _, _):
            inner = [measured(one, deepest - 1) for one in thing[1:]]
            if None in inner:
                return None
            depth = 1 + max(one[0] for one in inner)
            return (depth, 1 + sum(one[1] for one in inner), set().union(*(one[2] for one in inner)))
    return None


def is_rule(thing):
    found = measured(thing)
    return found is not None and found[0] <= 6 and found[1] <= 30 and len(found[2]) <= 3


def holds(rule, have):
    match rule:
        case ("any",):
            return True
        case ("has", word):
            return word in have
        case ("least", word, number):
            return word in have and have[word] >= number
        case ("not", inner):
            return not holds(inner, have)
        case ("both", first, second):
            return holds(first, have) and holds(second, have)
        case ("either", first, second):
            return holds(first, have) or holds(second, have)
    raise ValueError(rule)


def place_by(prime, salt, slope, guest):
    number = salt
    for sign in guest:
        number = number * 1009 + (ord(sign) - ord("a") + 1 if sign.isalpha() else int(sign) + 27)
    x, y = divmod(number % (prime * prime), prime)
    return y if slope == prime else (x + slope * y) % prime


def dealt(total, weights):
    given = [0] * len(weights)
    for _ in range(total):
        given[max(range(len(weights)), key=lambda k: (Fraction(weights[k], given[k] + 1), -k))] += 1
    return tuple(given)


class PlainHouse:
    def __init__(self, prime, salt):
        self.p = prime
        self.s = salt
        self.slopes = {}
        self.facts = {}
        self.state = {}
        # Of each layer the owner of a place and the turn at which it was taken.
        self.grid = {}
        self.turn = 0
        self.seats = set()
        self.comings = []
        self.bars = set()
        self.told = []

    # What a deed is refused with, or None.
    def refusal(self, deed):
        if type(deed) is not tuple or not deed or type(deed[0]) is not str:
            return NoDeed
        if deed[0] not in THINGS or len(deed) != 1 + len(THINGS[deed[0]]):
            return NoDeed
        for kind, thing in zip(THINGS[deed[0]], deed[1:]):
            found = getattr(self, "refuse_" + kind)(thing, deed)
            if found is not None:
                return found
        if deed[0] in ("share", "deal", "pause", "go", "close") and self.state[deed[1]] == "closed":
            return Closed
        layer, wanted = self.wanted(deed)
        if sum(number for owner, number in wanted) > self.p:
            return NoRoom
        if wanted:
            others = [owner for owner, turn in self.grid[layer].values() if owner not in dict(wanted)]
            if len(others) + sum(number for owner, number in wanted) > self.p:
                return NoRoom
        return None

    def refuse_new(self, thing, names):
        if not is_word(thing):
            return NoWord
        return Taken if thing in names else None

    def refuse_new_layer(self, thing, deed):
        return self.refuse_new(thing, self.slopes)

    def refuse_new_trial(self, thing, deed):
        return self.refuse_new(thing, self.facts)

    def refuse_standing(self, thing, names):
        if not is_word(thing):
            return NoWord
        return None if thing in names else Unknown

    def refuse_layer(self, thing, deed):
        return self.refuse_standing(thing, self.slopes)

    def refuse_trial(self, thing, deed):
        return self.refuse_standing(thing, self.facts)

    def refuse_slope(self, thing, deed):
        if not is_between(thing, 0, self.p):
            return NoNumber
        return Taken if thing in self.slopes.values() else None

    def refuse_arms(self, thing, deed):
        if type(thing) is not tuple or not 1 <= len(thing) <= 4:
            return NoArms
        if not all(is_word(arm) for arm in thing) or len(set(thing)) < len(thing):
            return NoArms
        return None

    def refuse_rule(self, thing, deed):
        return None if is_rule(thing) else NoRule

    def refuse_shuts(self, thing, deed):
        if type(thing) is not tuple or len(thing) > 8:
            return NoShuts
        ahead = []
        for name in thing:
            found = self.refuse_standing(name, self.facts)
            if found is not None:
                return found
            if name in ahead:
                return NoShuts
            ahead.append(name)
        return None

    def refuse_number(self, thing, deed):
        return None if type(thing) is int and thing >= 0 else NoNumber

    def refuse_numbers(self, thing, deed):
        if type(thing) is not tuple or len(thing) != len(self.facts[deed[1]]["arms"]):
            return NoNumber
        return None if all(type(number) is int and number >= 0 for number in thing) else NoNumber

    def refuse_total(self, thing, deed):
        return None if is_between(thing, 0, 1000) else NoNumber

    def refuse_weights(self, thing, deed):
        if type(thing) is not tuple or len(thing) != len(self.facts[deed[1]]["arms"]):
            return NoNumber
        return None if all(is_between(weight, 1, BIG) for weight in thing) else NoNumber

    def refuse_guest(self, thing, deed):
        return None if is_guest(thing) else NoWord

    def refuse_marks(self, thing, deed):
        return None if are_marks(thing) else NoMarks

    # The layer and the numbers of places that a deed tells to the layer's table.
    def wanted(self, deed):
        if deed[0] == "hold":
            return deed[1], [(("", ""), deed[2])]
        if deed[0] not in ("share", "deal", "close"):
            return None, []
        arms = self.facts[deed[1]]["arms"]
        numbers = deed[2] if deed[0] == "share" else dealt(*deed[2:]) if deed[0] == "deal" else [0] * len(arms)
        return self.facts[deed[1]]["layer"], [((deed[1], arm), number) for arm, number in zip(arms, numbers)]

    # The answer, or the class of the refusal.
    def do(self, deed):
        refused = self.refusal(deed)
        if refused is not None:
            return refused
        self.told.append(deed)
        return getattr(self, "do_" + deed[0])(deed)

    def do_layer(self, deed):
        self.slopes[deed[1]] = deed[2]
        self.grid[deed[1]] = {}
        return []

    def do_trial(self, deed):
        self.facts[deed[1]] = {"layer": deed[2], "arms": deed[3], "rule": deed[4], "shuts": deed[5]}
        self.state[deed[1]] = "going"
        return []

    def do_share(self, deed):
        layer, wanted = self.wanted(deed)
        grid = self.grid[layer]
        back = []
        for owner, number in wanted:
            while len(self.owned(layer, owner)) > number:
                back.append(self.owned(layer, owner)[-1])
                grid.pop(back[-1])
        for owner, number in wanted:
            while len(self.owned(layer, owner)) < number:
                self.turn += 1
                grid[min(set(range(self.p)) - set(grid))] = (owner, self.turn)
        return self.out([seat for seat in self.seats if seat[1] == layer and self.place(layer, seat[0]) in back])

    do_deal = do_share
    do_hold = do_share

    def do_close(self, deed):
        answer = self.do_share(deed)
        self.state[deed[1]] = "closed"
        return answer

    def do_pause(self, deed):
        self.state[deed[1]] = "paused"
        return []

    def do_go(self, deed):
        self.state[deed[1]] = "going"
        return []

    def do_bar(self, deed):
        self.bars.add((deed[1], deed[2]))
        return self.out([seat for seat in self.seats if (seat[0], seat[2]) == (deed[1], deed[2])])

    def do_visit(self, deed):
        self.come(deed[1], deed[2], self.seats, self.comings)
        return self.stand(deed[1])

    def out(self, seats):
        self.seats.difference_update(seats)
        return sorted((guest, trial, arm) for guest, layer, trial, arm in seats)

    # Adds the seats that a visit brings to those that are handed in.
    def come(self, guest, marks, seats, comings):
        for layer in self.slopes:
            if any(seat[:2] == (guest, layer) for seat in seats):
                continue
            owner = self.owner(layer, self.place(layer, guest))
            if owner in (None, ("", "")) or self.state[owner[0]] != "going":
                continue
            trial, arm = owner
            been = {its for who, its, at in comings if who == guest}
            if (guest, trial) in self.bars or been.intersection(self.facts[trial]["shuts"]):
                continue
            if holds(self.facts[trial]["rule"], dict(marks)):
                seats.add((guest, layer, trial, arm))
                comings.append((guest, trial, arm))

    def owned(self, layer, owner):
        own = [(turn, place) for place, (its, turn) in self.grid[layer].items() if its == owner]
        return [place for turn, place in sorted(own)]

    def standing(self, guest, seats):
        own = {layer: (layer, trial, arm) for who, layer, trial, arm in seats if who == guest}
        return [own[layer] for layer in self.slopes if layer in own]

    def place(self, layer, guest):
        return place_by(self.p, self.s, self.slopes[layer], guest)

    def owner(self, layer, place):
        return self.grid[layer][place][0] if place in self.grid[layer] else None

    def places(self, trial, arm):
        return self.owned(self.facts[trial]["layer"], (trial, arm))

    def shares(self, trial):
        return tuple(len(self.places(trial, arm)) for arm in self.facts[trial]["arms"])

    def stand(self, guest):
        return self.standing(guest, self.seats)

    def ever(self, guest):
        return [(trial, arm) for who, trial, arm in self.comings if who == guest]

    def would(self, guest, marks):
        seats = set(self.seats)
        self.come(guest, marks, seats, list(self.comings))
        return self.standing(guest, seats)

    def who(self, trial):
        return sorted((guest, arm) for guest, layer, its, arm in self.seats if its == trial)

    def layers(self):
        return list(self.slopes.items())

    def trials(self):
        return list(self.facts)

    def layer_of(self, trial):
        return self.facts[trial]["layer"]

    def book(self):
        return list(self.told)

    def prime(self):
        return self.p

    def salt(self):
        return self.s


# The arms of each trial, as they were told.
def arms_told(house):
    return {deed[1]: deed[3] for deed in house.book() if deed[0] == "trial"}


# All that a house answers, of these guests and marks.
def everything(house, guests, some_marks):
    told = [house.prime(), house.salt(), house.layers(), house.trials(), house.book()]
    for layer, _ in house.layers():
        told.append([house.place(layer, guest) for guest in guests])
        told.append([house.owner(layer, place) for place in range(house.prime())])
    for trial, arms in arms_told(house).items():
        told.append((house.shares(trial), house.who(trial), house.layer_of(trial)))
        told.append([house.places(trial, arm) for arm in arms])
    for guest in guests:
        told.append((house.stand(guest), house.ever(guest), [house.would(guest, marks) for marks in some_marks]))
    return told


# With the prime 7 and the salt 0 a guest named by one sign has the sign's number
# itself, so the place is 0 to 5 by sevens where the slope is 0, and the rest where
# it is 7: a to f have the place 0, g to m 1, n to t 2 in the one, and a, h, o the
# place 1, b, i, p the place 2 in the other.
GUESTS = tuple("abcghinopuvw") + ("ann7", "never")
MARKS = ((), (("age", 17),), (("age", 18), ("size", -3)))


def told(*deeds, prime=7, salt=0):
    house = House(prime, salt)
    for deed in deeds:
        house.do(deed)
    return house


class HouseChecks(unittest.TestCase):
    guests = GUESTS
    some_marks = MARKS

    def everything(self, house):
        return everything(house, self.guests, self.some_marks)

    # The answer, that nothing handed in is changed, and that the deed stands last in the book.
    def check_do(self, house, deed, answer):
        handed = copy.deepcopy(deed)
        book = house.book()
        given = house.do(deed)
        self.assertIs(type(given), list)
        self.assertEqual(given, answer, deed)
        self.assertEqual(house.book(), book + [deed])
        self.assertEqual(repr(deed), repr(handed))

    def check_refused(self, house, deed, refusal, before=None):
        handed = repr(deed)
        before = self.everything(house) if before is None else before
        with self.assertRaises(SplitError) as caught:
            house.do(deed)
        self.assertIs(type(caught.exception), refusal, deed)
        self.assertEqual(self.everything(house), before, deed)
        self.assertEqual(repr(deed), handed)

    def check_asked(self, ask, refusal, *things):
        handed = repr(things)
        with self.assertRaises(SplitError) as caught:
            ask(*things)
        self.assertIs(type(caught.exception), refusal, (ask, things))
        self.assertEqual(repr(things), handed)
