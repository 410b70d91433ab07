"""A plain reckoning of points 13 to 21 that tests keep beside the program, and what they share."""

import copy
import itertools
import re
import unittest
from fractions import Fraction

from layersplit.errors import (
    Closed, NoArms, NoDeed, NoMarks, NoNumber, NoRoom, NoRow, NoRule, NoShuts, NoWord, SplitError, Taken, Unknown,
)
from layersplit.house import House

BIG = 10 ** 30
ANY = ("any",)

# What the things of a deed are, behind its first word.
THINGS = {
    "layer": ("new_layer", "slope"),
    "trial": ("new_trial", "layer", "arms", "rule", "shuts"),
    "share": ("trial", "numbers"),
    "deal": ("trial", "total", "weights"),
    "hold": ("layer", "number"),
    "pause": ("trial",),
    "go": ("trial",),
    "close": ("trial",),
    "bar": ("guest", "trial"),
    "visit": ("guest", "marks"),
}


def wrapped(many, wrap, inmost):
    thing = inmost
    for _ in range(many):
        thing = wrap(thing)
    return thing


# Things of all kinds, none of which is a deed, a word, a guest's name, a rule, marks
# or a number of places; the last of them reach the bounds of any thing, thirty deep
# and five hundred parts.
ODD = (
    None, True, False, -1, -BIG, -10 ** 59, "", " ", "A", "a b", "a\n", "a-b", "a" * 25, "~", "~" * 4000,
    [], [()], [[]], ["a"], ["any"], [1], [0, 0], [("a", 1)], [("any",)], [("layer", "a", 0)], ["layer", "a", 0],
    (None,), (True,), (True, False), (-1,), (0, -1), ([],), ([], []), ("",), ("A", "b"), ("a", "a"), ((),),
    ((), ()), ([], "a"), (["a"], ["b"]), ("a", ["b"]), ("a", None), (("a",), ("b",)), (("a", True),), (("a", 1, 2),),
    (("a", []),), (("a", 1), ("a", 2)), (["a", 1],), (("A", 1),), ("not", []), ("not", "any"), ("least", "a"),
    ("least", "a", True), ("has", ["a"]), ("both", ANY, []), ("deed", "a", "b"), ("Layer", "a", 0), ("layer ", "a", 0),
    wrapped(29, lambda thing: [thing], []), wrapped(29, lambda thing: (thing,), ()),
    wrapped(29, lambda thing: ("not", thing), ANY), wrapped(29, lambda thing: ["a", thing], None),
    ("a",) * 499, ["a"] * 499, (ANY,) * 249, (("a", 1),) * 166, tuple(["a"] for _ in range(249)), (0,) * 499,
    [[0] * 498], ("trial",) + ("a",) * 498, ([0] * 200, (None,) * 200, True),
)


def is_word(thing):
    return type(thing) is str and re.fullmatch("[a-z]{1,12}", thing) is not None


def is_guest(thing):
    return type(thing) is str and re.fullmatch("[a-z0-9]{1,24}", thing) is not None


def is_between(thing, least, most):
    return type(thing) is int and least <= thing <= most


def are_marks(thing):
    if type(thing) is not tuple or len(thing) > 8:
        return False
    for mark in thing:
        if type(mark) is not tuple or len(mark) != 2 or not is_word(mark[0]) or not is_between(mark[1], -BIG, BIG):
            return False
    return len(dict(thing)) == len(thing)


# The depth, the number and the words of a rule, or None where it is none.
def measured(thing, deepest=6):
    if deepest == 0 or type(thing) is not tuple:
        return None
    match thing:
        case ("any",):
            return (1, 1, set())
        case ("has", word) if is_word(word):
            return (1, 1, {word})
        case ("least", word, number) if is_word(word) and is_between(number, -BIG, BIG):
            return (1, 1, {word})
        case ("not", _) | ("both", _, _) | ("either", _, _):
            inner = [measured(one, deepest - 1) for one in thing[1:]]
            if None in inner:
                return None
            depth = 1 + max(one[0] for one in inner)
            return (depth, 1 + sum(one[1] for one in inner), set().union(*(one[2] for one in inner)))
    return None


def is_rule(thing):
    found = measured(thing)
    return found is not None and found[0] <= 6 and found[1] <= 30 and len(found[2]) <= 3


def holds(rule, have):
    match rule:
        case ("any",):
            return True
        case ("has", word):
            return word in have
        case ("least", word, number):
            return word in have and have[word] >= number
        case ("not", inner):
            return not holds(inner, have)
        case ("both", first, second):
            return holds(first, have) and holds(second, have)
        case ("either", first, second):
            return holds(first, have) or holds(second, have)
    raise ValueError(rule)


def place_by(prime, salt, slope, guest):
    number = salt
    for sign in guest:
        number = number * 1009 + (ord(sign) - ord("a") + 1 if sign.isalpha() else int(sign) + 27)
    x, y = divmod(number % (prime * prime), prime)
    return y if slope == prime else (x + slope * y) % prime


def dealt(total, weights):
    given = [0] * len(weights)
    for _ in range(total):
        given[max(range(len(weights)), key=lambda k: (Fraction(weights[k], given[k] + 1), -k))] += 1
    return tuple(given)


class PlainHouse:
    def __init__(self, prime, salt):
        self.p = prime
        self.s = salt
        self.slopes = {}
        self.facts = {}
        self.state = {}
        # Of each layer the owner of a place and the turn at which it was taken.
        self.grid = {}
        self.turn = 0
        self.seats = set()
        self.comings = []
        self.bars = set()
        self.told = []

    # What a deed is refused with, or None.
    def refusal(self, deed):
        if type(deed) is not tuple or not deed or type(deed[0]) is not str:
            return NoDeed
        if deed[0] not in THINGS or len(deed) != 1 + len(THINGS[deed[0]]):
            return NoDeed
        for kind, thing in zip(THINGS[deed[0]], deed[1:]):
            found = getattr(self, "refuse_" + kind)(thing, deed)
            if found is not None:
                return found
        if deed[0] in ("share", "deal", "pause", "go", "close") and self.state[deed[1]] == "closed":
            return Closed
        layer, wanted = self.wanted(deed)
        if sum(number for owner, number in wanted) > self.p:
            return NoRoom
        if wanted:
            others = [owner for owner, turn in self.grid[layer].values() if owner not in dict(wanted)]
            if len(others) + sum(number for owner, number in wanted) > self.p:
                return NoRoom
        return None

    def refuse_new(self, thing, names):
        if not is_word(thing):
            return NoWord
        return Taken if thing in names else None

    def refuse_new_layer(self, thing, deed):
        return self.refuse_new(thing, self.slopes)

    def refuse_new_trial(self, thing, deed):
        return self.refuse_new(thing, self.facts)

    def refuse_standing(self, thing, names):
        if not is_word(thing):
            return NoWord
        return None if thing in names else Unknown

    def refuse_layer(self, thing, deed):
        return self.refuse_standing(thing, self.slopes)

    def refuse_trial(self, thing, deed):
        return self.refuse_standing(thing, self.facts)

    def refuse_slope(self, thing, deed):
        if not is_between(thing, 0, self.p):
            return NoNumber
        return Taken if thing in self.slopes.values() else None

    def refuse_arms(self, thing, deed):
        if type(thing) is not tuple or not 1 <= len(thing) <= 4:
            return NoArms
        if not all(is_word(arm) for arm in thing) or len(set(thing)) < len(thing):
            return NoArms
        return None

    def refuse_rule(self, thing, deed):
        return None if is_rule(thing) else NoRule

    def refuse_shuts(self, thing, deed):
        if type(thing) is not tuple or len(thing) > 8:
            return NoShuts
        ahead = []
        for name in thing:
            found = self.refuse_standing(name, self.facts)
            if found is not None:
                return found
            if name in ahead:
                return NoShuts
            ahead.append(name)
        return None

    def refuse_number(self, thing, deed):
        return None if type(thing) is int and thing >= 0 else NoNumber

    def refuse_numbers(self, thing, deed):
        if type(thing) is not tuple or len(thing) != len(self.facts[deed[1]]["arms"]):
            return NoNumber
        return None if all(type(number) is int and number >= 0 for number in thing) else NoNumber

    def refuse_total(self, thing, deed):
        return None if is_between(thing, 0, 1000) else NoNumber

    def refuse_weights(self, thing, deed):
        if type(thing) is not tuple or len(thing) != len(self.facts[deed[1]]["arms"]):
            return NoNumber
        return None if all(is_between(weight, 1, BIG) for weight in thing) else NoNumber

    def refuse_guest(self, thing, deed):
        return None if is_guest(thing) else NoWord

    def refuse_marks(self, thing, deed):
        return None if are_marks(thing) else NoMarks

    # The layer and the numbers of places that a deed tells to the layer's table.
    def wanted(self, deed):
        if deed[0] == "hold":
            return deed[1], [(("", ""), deed[2])]
        if deed[0] not in ("share", "deal", "close"):
            return None, []
        arms = self.facts[deed[1]]["arms"]
        numbers = deed[2] if deed[0] == "share" else dealt(*deed[2:]) if deed[0] == "deal" else [0] * len(arms)
        return self.facts[deed[1]]["layer"], [((deed[1], arm), number) for arm, number in zip(arms, numbers)]

    # The answer, or the class of the refusal.
    def do(self, deed):
        refused = self.refusal(deed)
        if refused is not None:
            return refused
        self.told.append(deed)
        return getattr(self, "do_" + deed[0])(deed)

    def do_layer(self, deed):
        self.slopes[deed[1]] = deed[2]
        self.grid[deed[1]] = {}
        return []

    def do_trial(self, deed):
        self.facts[deed[1]] = {"layer": deed[2], "arms": deed[3], "rule": deed[4], "shuts": deed[5]}
        self.state[deed[1]] = "going"
        return []

    def do_share(self, deed):
        layer, wanted = self.wanted(deed)
        grid = self.grid[layer]
        back = []
        for owner, number in wanted:
            while len(self.owned(layer, owner)) > number:
                back.append(self.owned(layer, owner)[-1])
                grid.pop(back[-1])
        for owner, number in wanted:
            while len(self.owned(layer, owner)) < number:
                self.turn += 1
                grid[min(set(range(self.p)) - set(grid))] = (owner, self.turn)
        return self.out([seat for seat in self.seats if seat[1] == layer and self.place(layer, seat[0]) in back])

    do_deal = do_share
    do_hold = do_share

    def do_close(self, deed):
        answer = self.do_share(deed)
        self.state[deed[1]] = "closed"
        return answer

    def do_pause(self, deed):
        self.state[deed[1]] = "paused"
        return []

    def do_go(self, deed):
        self.state[deed[1]] = "going"
        return []

    def do_bar(self, deed):
        self.bars.add((deed[1], deed[2]))
        return self.out([seat for seat in self.seats if (seat[0], seat[2]) == (deed[1], deed[2])])

    def do_visit(self, deed):
        self.come(deed[1], deed[2], self.seats, self.comings)
        return self.stand(deed[1])

    def out(self, seats):
        self.seats.difference_update(seats)
        return sorted((guest, trial, arm) for guest, layer, trial, arm in seats)

    # Adds the seats that a visit brings to those that are handed in.
    def come(self, guest, marks, seats, comings):
        for layer in self.slopes:
            if any(seat[:2] == (guest, layer) for seat in seats):
                continue
            owner = self.owner(layer, self.place(layer, guest))
            if owner in (None, ("", "")) or self.state[owner[0]] != "going":
                continue
            trial, arm = owner
            been = {its for who, its, at in comings if who == guest}
            if (guest, trial) in self.bars or been.intersection(self.facts[trial]["shuts"]):
                continue
            if holds(self.facts[trial]["rule"], dict(marks)):
                seats.add((guest, layer, trial, arm))
                comings.append((guest, trial, arm))

    def owned(self, layer, owner):
        own = [(turn, place) for place, (its, turn) in self.grid[layer].items() if its == owner]
        return [place for turn, place in sorted(own)]

    def standing(self, guest, seats):
        own = {layer: (layer, trial, arm) for who, layer, trial, arm in seats if who == guest}
        return [own[layer] for layer in self.slopes if layer in own]

    def place(self, layer, guest):
        return place_by(self.p, self.s, self.slopes[layer], guest)

    def owner(self, layer, place):
        return self.grid[layer][place][0] if place in self.grid[layer] else None

    def places(self, trial, arm):
        return self.owned(self.facts[trial]["layer"], (trial, arm))

    def shares(self, trial):
        return tuple(len(self.places(trial, arm)) for arm in self.facts[trial]["arms"])

    def stand(self, guest):
        return self.standing(guest, self.seats)

    def ever(self, guest):
        return [(trial, arm) for who, trial, arm in self.comings if who == guest]

    def would(self, guest, marks):
        seats = set(self.seats)
        self.come(guest, marks, seats, list(self.comings))
        return self.standing(guest, seats)

    def who(self, trial):
        return sorted((guest, arm) for guest, layer, its, arm in self.seats if its == trial)

    def layers(self):
        return list(self.slopes.items())

    def trials(self):
        return list(self.facts)

    def layer_of(self, trial):
        return self.facts[trial]["layer"]

    def book(self):
        return list(self.told)

    def prime(self):
        return self.p

    def salt(self):
        return self.s


# The arms of each trial, as they were told.
def arms_told(house):
    return {deed[1]: deed[3] for deed in house.book() if deed[0] == "trial"}


# All that a house answers, of these guests and marks.
def everything(house, guests, some_marks):
    told = [house.prime(), house.salt(), house.layers(), house.trials(), house.book()]
    for layer, _ in house.layers():
        told.append([house.place(layer, guest) for guest in guests])
        told.append([house.owner(layer, place) for place in range(house.prime())])
    for trial, arms in arms_told(house).items():
        told.append((house.shares(trial), house.who(trial), house.layer_of(trial)))
        told.append([house.places(trial, arm) for arm in arms])
    for guest in guests:
        told.append((house.stand(guest), house.ever(guest), [house.would(guest, marks) for marks in some_marks]))
    return told


# How many of all points of the house lie in each of these arms (trial, arm), one by one.
def plain_points(house, *arms):
    p = house.prime()
    slopes = dict(house.layers())
    asked = [(slopes[house.layer_of(trial)], house.places(trial, arm)) for trial, arm in arms]
    found = 0
    for x in range(p):
        for y in range(p):
            found += all((y if slope == p else (x + slope * y) % p) in places for slope, places in asked)
    return found


def plain_list(things):
    return ",".join(str(thing) for thing in things) or "-"


def plain_marks(marks):
    return plain_list(word + "=" + str(number) for word, number in marks)


def plain_rule(rule):
    match rule:
        case ("any",):
            return "any"
        case ("has", word):
            return "has " + word
        case ("least", word, number):
            return "least " + word + " " + str(number)
        case ("not", inner):
            return "not " + plain_rule(inner)
        case ("both" | "either", first, second):
            return rule[0] + " " + plain_rule(first) + " " + plain_rule(second)
    raise ValueError(rule)


def plain_row(deed):
    match deed:
        case ("trial", name, layer, arms, rule, shuts):
            return f"trial {name} {layer} {plain_list(arms)} {plain_list(shuts)} {plain_rule(rule)}"
        case ("share", trial, numbers):
            return f"share {trial} {plain_list(numbers)}"
        case ("deal", trial, total, weights):
            return f"deal {trial} {total} {plain_list(weights)}"
        case ("visit", guest, marks):
            return f"visit {guest} {plain_marks(marks)}"
        case ("layer" | "hold" | "bar", first, second):
            return f"{deed[0]} {first} {second}"
        case ("pause" | "go" | "close", trial):
            return f"{deed[0]} {trial}"
    raise ValueError(deed)


def plain_text(house):
    return "\n".join([f"house {house.prime()} {house.salt()}"] + [plain_row(deed) for deed in house.book()])


def listed(form, least, most):
    many = f"{form}(?:,{form}){{0,{most - 1}}}"
    return f"(?:-|{many})" if least == 0 else many


WORD = "[a-z]{1,12}"
GUEST = "[a-z0-9]{1,24}"
COUNT = "(?:0|[1-9][0-9]{0,59})"
NUMBER = "(?:0|-?[1-9][0-9]{0,59})"
RULE = "[a-z0-9 -]+"
# The forms of a row's things, by what the things are.
FORMS = {
    "new_layer": WORD, "new_trial": WORD, "layer": WORD, "trial": WORD, "arm": WORD, "guest": GUEST, "slope": COUNT,
    "number": COUNT, "place": COUNT, "total": COUNT, "arms": listed(WORD, 1, 4), "shuts": listed(WORD, 0, 8),
    "numbers": listed(COUNT, 1, 4), "weights": listed(COUNT, 1, 4), "marks": listed(f"{WORD}={NUMBER}", 0, 8),
    "rule": RULE,
}
ASKED = {
    "place": ("layer", "guest"), "owner": ("layer", "place"), "places": ("trial", "arm"), "shares": ("trial",),
    "stand": ("guest",), "ever": ("guest",), "would": ("guest", "marks"), "who": ("trial",),
    "points": ("trial", "arm"), "meet": ("trial", "arm", "trial", "arm"), "example": ("rule",), "text": (),
}


# The rule that a text writes, or None: what is begun waits in a pile until it is whole.
def plain_read_rule(text):
    words = text.split(" ")
    pile = []
    while words:
        kind = words.pop(0)
        part = None
        if kind == "any":
            part = (kind,)
        elif kind == "has" and len(words) >= 1:
            part = (kind, words.pop(0))
        elif kind == "least" and len(words) >= 2 and re.fullmatch(NUMBER, words[1]):
            part = (kind, words.pop(0), int(words.pop(0)))
        elif kind not in ("not", "both", "either"):
            return None
        else:
            pile.append([kind])
            continue
        while pile:
            pile[-1].append(part)
            if len(pile[-1]) < {"not": 2, "both": 3, "either": 3}[pile[-1][0]]:
                break
            part = tuple(pile.pop())
        else:
            return part if not words and is_rule(part) else None
    return None


# The thing that a text of its form writes; None where it is none for all that.
def plain_thing(kind, text):
    parts = [] if text == "-" else text.split(",")
    if kind in ("slope", "number", "place"):
        return int(text)
    if kind == "total":
        return int(text) if int(text) <= 1000 else None
    if kind == "numbers":
        return tuple(int(part) for part in parts)
    if kind == "weights":
        return tuple(int(part) for part in parts) if all(1 <= int(part) <= BIG for part in parts) else None
    if kind in ("arms", "shuts"):
        return tuple(parts) if len(set(parts)) == len(parts) else None
    if kind == "marks":
        marks = tuple((part.split("=")[0], int(part.split("=")[1])) for part in parts)
        return marks if are_marks(marks) else None
    return plain_read_rule(text) if kind == "rule" else text


# The things of a row with this first word, or None.
def plain_things(first, kinds, row):
    found = re.fullmatch(" ".join([first] + [f"({FORMS[kind]})" for kind in kinds]), row)
    if found is None:
        return None
    things = [plain_thing(kind, text) for kind, text in zip(kinds, found.groups())]
    return None if None in things else tuple(things)


# The deed that a row writes, or None.
def plain_read(row):
    for first, kinds in THINGS.items():
        if first == "trial":
            kinds = ("new_trial", "layer", "arms", "shuts", "rule")
        things = plain_things(first, kinds, row)
        if things is not None:
            return (first,) + (things[:3] + (things[4], things[3]) if first == "trial" else things)
    return None


def plain_tuples(tuples, empty):
    return " ".join("/".join(one) for one in tuples) or empty


# What a question is refused with, or None, by the things that it is asked by.
def plain_refusal(house, kinds, things):
    arms = arms_told(house)
    trial = None
    for kind, thing in zip(kinds, things):
        if kind == "layer" and thing not in dict(house.layers()):
            return Unknown
        if kind == "trial" and thing not in arms:
            return Unknown
        if kind == "arm" and thing not in arms[trial]:
            return Unknown
        if kind == "place" and thing >= house.prime():
            return NoNumber
        trial = thing if kind == "trial" else trial
    return None


# What a desk with this plain house answers to a row: a text, or the class of the refusal.
def plain_say(house, row):
    deed = plain_read(row)
    if deed is not None:
        answer = house.do(deed)
        return answer if type(answer) is type else plain_tuples(answer, "ok")
    for first, kinds in ASKED.items():
        things = plain_things(first, kinds, row)
        if things is not None:
            return plain_refusal(house, kinds, things) or plain_answer(house, first, things)
    return NoRow


def plain_answer(house, first, things):
    if first == "text":
        return plain_text(house)
    if first == "example":
        marks = plain_example(things[0])
        return "none" if marks is None else plain_marks(marks)
    if first == "points":
        return str(plain_points(house, things))
    if first == "meet":
        return str(plain_points(house, things[:2], things[2:]))
    answer = getattr(house, first)(*things)
    if first == "place":
        return str(answer)
    if first == "owner":
        return {None: "free", ("", ""): "held"}.get(answer) or "/".join(answer)
    return plain_list(answer) if first in ("places", "shares") else plain_tuples(answer, "-")


# The first marks by point 12, of all that have the rule's words with the numbers told there.
def plain_example(rule):
    words = sorted(measured(rule)[2])
    numbers = [sorted(int(one) for one in re.findall(f"least {word} (-?[0-9]+)", plain_rule(rule))) for word in words]
    tried = [[number for number in dict.fromkeys([ns[0] - 1] + ns) if number >= -BIG] if ns else [0] for ns in numbers]
    for choice in itertools.product(*[[None] + one for one in tried]):
        marks = tuple((word, number) for word, number in zip(words, choice) if number is not None)
        if holds(rule, dict(marks)):
            return marks
    return None


LONGEST_WORD = "abcdefghijkl"
LONGEST_GUEST = "abcdefghijklmnopqrstuvwx"

# Rules and what is written of them, by hand.
RULE_TEXTS = (
    (ANY, "any"),
    (("has", "age"), "has age"),
    (("has", "any"), "has any"),
    (("has", LONGEST_WORD), "has abcdefghijkl"),
    (("least", "age", 18), "least age 18"),
    (("least", "age", 0), "least age 0"),
    (("least", "age", -1), "least age -1"),
    (("least", "least", 10), "least least 10"),
    (("least", "a", BIG), "least a 1" + "0" * 30),
    (("least", "a", -BIG), "least a -1" + "0" * 30),
    (("least", "a", 1 - BIG), "least a -" + "9" * 30),
    (("not", ANY), "not any"),
    (("not", ("not", ("has", "not"))), "not not has not"),
    (("both", ANY, ("has", "age")), "both any has age"),
    (("both", ("has", "age"), ANY), "both has age any"),
    (("either", ("has", "a"), ("least", "b", -3)), "either has a least b -3"),
    (("both", ("either", ("has", "a"), ANY), ("not", ("least", "a", 7))), "both either has a any not least a 7"),
    (("either", ANY, ("both", ANY, ("not", ("both", ANY, ("has", "x"))))), "either any both any not both any has x"),
    (wrapped(5, lambda inner: ("not", inner), ANY), "not not not not not any"),
)

# Deeds and what is written of them, by hand: the document's own rows first.
DEED_ROWS = (
    (("layer", "upper", 3), "layer upper 3"),
    (("trial", "soap", "upper", ("old", "new"), ("least", "age", 18), ("mild", "rough")),
     "trial soap upper old,new mild,rough least age 18"),
    (("trial", "soap", "upper", ("old", "new"), ANY, ()), "trial soap upper old,new - any"),
    (("share", "soap", (3, 4)), "share soap 3,4"),
    (("deal", "soap", 10, (1, 2)), "deal soap 10 1,2"),
    (("hold", "upper", 2), "hold upper 2"),
    (("pause", "soap"), "pause soap"),
    (("go", "soap"), "go soap"),
    (("close", "soap"), "close soap"),
    (("bar", "ann7", "soap"), "bar ann7 soap"),
    (("visit", "ann7", (("age", 20), ("size", -3))), "visit ann7 age=20,size=-3"),
    (("visit", "ann7", ()), "visit ann7 -"),
    (("layer", "a", 0), "layer a 0"),
    (("layer", LONGEST_WORD, 997), "layer abcdefghijkl 997"),
    (("layer", "layer", 10 ** 59), "layer layer 1" + "0" * 59),
    (("trial", "a", "b", ("c",), ANY, ("d",)), "trial a b c d any"),
    (("trial", "any", "any", ("any",), ("has", "any"), ("any",)), "trial any any any any has any"),
    (("trial", "a", "a", ("z", "y", "x", "a"), ("both", ANY, ("least", "x", -5)), tuple("hgfedcba")),
     "trial a a z,y,x,a h,g,f,e,d,c,b,a both any least x -5"),
    (("share", "soap", (0,)), "share soap 0"),
    (("share", "soap", (0, 0, 12, 997)), "share soap 0,0,12,997"),
    (("share", "soap", (10, 5, 5)), "share soap 10,5,5"),
    (("share", "soap", (10 ** 59,)), "share soap 1" + "0" * 59),
    (("deal", "soap", 0, (1,)), "deal soap 0 1"),
    (("deal", "soap", 1000, (BIG, 1, 1, BIG)), "deal soap 1000 1" + "0" * 30 + ",1,1,1" + "0" * 30),
    (("hold", "upper", 0), "hold upper 0"),
    (("hold", "hold", 10 ** 59), "hold hold 1" + "0" * 59),
    (("bar", "0", "a"), "bar 0 a"),
    (("bar", LONGEST_GUEST, LONGEST_WORD), "bar abcdefghijklmnopqrstuvwx abcdefghijkl"),
    (("visit", "007", (("a", 0),)), "visit 007 a=0"),
    (("visit", "go", (("b", BIG), ("a", -BIG))), "visit go b=1" + "0" * 30 + ",a=-1" + "0" * 30),
    (("visit", LONGEST_GUEST, tuple((name, -k) for k, name in enumerate("hgfedcba"))),
     "visit abcdefghijklmnopqrstuvwx h=0,g=-1,f=-2,e=-3,d=-4,c=-5,b=-6,a=-7"),
)


# With the prime 7 and the salt 0 a guest named by one sign has the sign's number
# itself, so the place is 0 to 5 by sevens where the slope is 0, and the rest where
# it is 7: a to f have the place 0, g to m 1, n to t 2 in the one, and a, h, o the
# place 1, b, i, p the place 2 in the other.
GUESTS = tuple("abcghinopuvw") + ("ann7", "never")
MARKS = ((), (("age", 17),), (("age", 18), ("size", -3)))


def told(*deeds, prime=7, salt=0):
    house = House(prime, salt)
    for deed in deeds:
        house.do(deed)
    return house


class HouseChecks(unittest.TestCase):
    guests = GUESTS
    some_marks = MARKS

    def everything(self, house):
        return everything(house, self.guests, self.some_marks)

    # The answer, that nothing handed in is changed, and that the deed stands last in the book.
    def check_do(self, house, deed, answer):
        handed = copy.deepcopy(deed)
        book = house.book()
        given = house.do(deed)
        self.assertIs(type(given), list)
        self.assertEqual(given, answer, deed)
        self.assertEqual(house.book(), book + [deed])
        self.assertEqual(repr(deed), repr(handed))

    def check_refused(self, house, deed, refusal, before=None):
        handed = repr(deed)
        before = self.everything(house) if before is None else before
        with self.assertRaises(SplitError) as caught:
            house.do(deed)
        self.assertIs(type(caught.exception), refusal, deed)
        self.assertEqual(self.everything(house), before, deed)
        self.assertEqual(repr(deed), handed)

    def check_asked(self, ask, refusal, *things):
        handed = repr(things)
        with self.assertRaises(SplitError) as caught:
            ask(*things)
        self.assertIs(type(caught.exception), refusal, (ask, things))
        self.assertEqual(repr(things), handed)
