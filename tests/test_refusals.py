import itertools
import unittest

from plain_house import ANY, BIG, ODD, THINGS, HouseChecks, PlainHouse, told, wrapped

from layersplit.errors import (
    Closed, NoArms, NoDeed, NoMarks, NoNumber, NoRoom, NoRule, NoShuts, NoWord, SplitError, Taken, Unknown,
)
from layersplit.house import House

# soap has four places of up and one is held, so two are free; rope has all of down
# but one; done is closed.
START = (
    ("layer", "up", 0), ("layer", "down", 7), ("trial", "soap", "up", ("old", "new"), ANY, ()),
    ("trial", "rope", "down", ("one",), ("has", "age"), ("soap",)), ("trial", "done", "up", ("old", "new"), ANY, ()),
    ("share", "soap", (3, 1)), ("share", "rope", (6,)), ("share", "done", (1, 1)), ("hold", "up", 1),
    ("visit", "a", ()), ("visit", "o", (("age", 20),)), ("visit", "p", ()), ("bar", "b", "soap"), ("close", "done"),
)

# What fits as each thing of a deed, where the trial is soap.
FITS = {
    "new_layer": "mid", "slope": 3, "new_trial": "late", "layer": "up", "arms": ("x", "y"), "rule": ("has", "age"),
    "shuts": ("soap", "done"), "trial": "soap", "numbers": (4, 2), "total": 6, "weights": (1, 2), "number": 3,
    "guest": "c", "marks": (("age", 18),),
}

NOWHERE = ("mid", "soa", "soapy", "u", "upp", "old", "layer", "a", "age", "any")
NO_WORDS = ODD + (0, 1, 7, BIG, (), "a1", "ann7", "1", "a" * 13, ("soap",), ["soap"], ("up",), [["up"]], (("up",),))
NO_GUESTS = ODD + (0, 1, 7, BIG, (), "ANN", "ann 7", "ann-7", "z" * 25, ("c",), ["c"], (("c",),))
NO_COUNTS = ODD + ((), "0", "1", (0,), [0], (3,), "a")


def each(refusal, things):
    return [(thing, refusal) for thing in things]


def nots(many):
    return wrapped(many, lambda thing: ("not", thing), ANY)


# What does not fit as each thing, and what it is refused with.
FAULTS = {
    "new_layer": each(NoWord, NO_WORDS) + each(Taken, ("up", "down")),
    "new_trial": each(NoWord, NO_WORDS) + each(Taken, ("soap", "rope", "done")),
    "layer": each(NoWord, NO_WORDS) + each(Unknown, NOWHERE + ("soap", "rope")),
    "trial": each(NoWord, NO_WORDS) + each(Unknown, NOWHERE + ("up", "down")),
    "slope": each(NoNumber, NO_COUNTS + (8, 9, 997, BIG, 10 ** 59)) + each(Taken, (0, 7)),
    "arms": each(NoArms, (
        None, True, 0, 2, "", "old", "old,new", [], ["x"], ["x", "y"], (), ("",), ("X",), ("x1",), ("x", ""),
        ("x", "x"), ("x", "y", "x"), ("w", "x", "y", "w"), ("v", "w", "x", "y", "z"), ("x",) * 5, ("a" * 13,), (None,),
        (1,), (True,), ("x", None), ("x", 1), (["x"],), (["x"], ["y"]), (["x"], ["x"]), (("x",),), (("x",), ("x",)),
        ("x", ["y"]), ("x", "y\n"), (ANY, ANY), tuple("abcdefghijklmnopqrstuvwxyz"), ("a",) * 499,
        wrapped(29, lambda thing: (thing,), "x"), wrapped(29, lambda thing: ["x", thing], "x"),
    )),
    "rule": each(NoRule, ODD + (
        (), 0, 1, "any", "has age", ["any"], [ANY], (ANY,), ("any", "any"), ("has",), ("has", ""), ("has", "Age"),
        ("has", "age", 1), ("least", "age", "1"), ("least", "age", BIG + 1), ("least", "age", -BIG - 1),
        ("least", "age", None), ("not",), ("not", ANY, ANY), ("both", ANY), ("both", ANY, ANY, ANY),
        ("either", ANY, "any"), ("either", ANY, ["any"]), ("either", [ANY], ANY), nots(6), ("not", ("has", 1)),
        ("both", ("has", "a"), ("has", "")), wrapped(4, lambda thing: ("both", thing, thing), ANY), ("not", ["any"]),
        ("all",), (["any"],), (None,),
        ("both", ("both", ("has", "a"), ("has", "b")), ("both", ("has", "c"), ("has", "d"))),
    )),
    "shuts": each(NoShuts, (
        None, True, False, 0, 1, -1, "", "soap", "-", [], ["soap"], ["soap", "done"], [()], [[]], ("soap",) * 9,
        ("nowhere",) * 9, (None,) * 9, ([],) * 9, ("a",) * 499, ["a"] * 499, wrapped(29, lambda thing: [thing], "soap"),
        ("soap", "soap"), ("soap", "rope", "soap"), ("soap", "rope", "rope", "nowhere"), ("soap", "soap", None),
        ("rope", "done", "soap", "done", ["soap"]), ("soap",) * 8,
    )) + each(NoWord, (
        (None,), (True,), (0,), ("",), ("Soap",), ("soap ",), ("soap", ""), ("soap", None), ("soap", ["soap"]), ([],),
        (["soap"],), (("soap",),), ((),), ("", "nowhere"), ("", "soap", "soap"), ([], []), ("soap", 7, "nowhere"),
        ("soap", "a1", "soap"), ("a" * 13,), wrapped(29, lambda thing: (thing,), "soap"), ([0] * 498,),
    )) + each(Unknown, (
        ("nowhere",), ("up",), ("old",), ("late",), ("soap", "nowhere"), ("soap", "late"), ("nowhere", ""), ("up", []),
        ("nowhere", "nowhere"), ("nowhere", "soap", "soap"), ("soap", "nowhere", "soap"), ("soa",), ("soapy",),
        ("soap", "rope", "done", "mid", None),
    )),
    "numbers": each(NoNumber, ODD + (
        (), 0, 1, 2, (1,), (1, 2, 3), (1, 1, 1, 1), [1, 2], (-1, 0), (0, -1), (True, 1), (1, False), (None, 1),
        ("1", "1"), "1,2", (1, (1,)), ((1, 2),), ([1], [2]), (1, [2]), (0,) * 5, (0, -10 ** 59),
    )),
    "total": each(NoNumber, NO_COUNTS + (1001, BIG, 10 ** 59)),
    "weights": each(NoNumber, ODD + (
        (), 1, (1,), (1, 1, 1), (0, 1), (1, 0), (-1, 1), (1, -BIG), (BIG + 1, 1), (1, BIG + 1), (True, 1), (1, True),
        (1, None), [1, 1], ("1", 1), (1, (1,)), ([1], 1), ((1, 1),), "1,2", (10 ** 59, 10 ** 59),
    )),
    "number": each(NoNumber, NO_COUNTS),
    "guest": each(NoWord, NO_GUESTS),
    "marks": each(NoMarks, ODD + (
        0, 1, "age=1", "-", [("age", 1)], (("age",),), (("age", 1, 1),), (["age", 1],), (("Age", 1),), (("", 1),),
        (("age1", 1),), (("a" * 13, 1),), (("age", "1"),), (("age", None),), (("age", True),), (("age", BIG + 1),),
        (("age", -BIG - 1),), (("age", 1), ("age", 1)), (("age", 1), ("size", 1), ("age", 2)), ("age", 1),
        (("age", (1,)),), ((["age"], 1),), ((("age",), 1),), tuple((word, 1) for word in "abcdefghi"), ("age",), ANY,
    )),
}


def with_things(kind, things):
    return (kind,) + tuple(things[thing] for thing in THINGS[kind])


# The faults of a thing, one for each refusal that it can be due to.
def chosen(thing):
    first = {}
    for fault, refusal in FAULTS[thing]:
        first.setdefault(refusal, fault)
    # Faults that a dict can't be asked for come along.
    return list(first.items()) + [(refusal, fault) for fault, refusal in FAULTS[thing] if type(fault) is list][:1]


class Refusals(HouseChecks):
    guests = ("a", "b", "c", "o", "p", "never")
    some_marks = ((), (("age", 18),))

    def setUp(self):
        self.house = told(*START)
        self.before = self.everything(self.house)

    def check(self, deed, refusal):
        self.check_refused(self.house, deed, refusal, self.before)

    # What the tests below refuse is refused for its fault alone.
    def test_what_fits(self):
        for kind in THINGS:
            house = told(*START)
            self.assertIs(type(house.do(with_things(kind, FITS))), list)
            self.assertEqual(house.book(), list(START) + [with_things(kind, FITS)])

    def test_edges_that_fit(self):
        for deed in (
            ("layer", "a", 1), ("layer", "soap", 6), ("layer", "abcdefghijkl", 3),
            ("trial", "up", "up", ("up",), ANY, ()), ("trial", "a", "up", ("a", "b", "c", "d"), nots(5), ("done",)),
            ("trial", "a", "down", ("a",), ("has", "a"), ()),
            ("trial", "a", "up", ("a",), wrapped(3, lambda thing: ("both", thing, thing), ANY), ("rope", "done")),
            ("share", "soap", (6, 0)), ("share", "soap", (0, 0)), ("share", "rope", (7,)), ("deal", "soap", 0, (1, 1)),
            ("deal", "soap", 6, (BIG, 1)), ("deal", "rope", 7, (BIG,)), ("hold", "up", 0), ("hold", "up", 3),
            ("hold", "down", 1), ("bar", "9", "done"), ("bar", "z" * 24, "rope"), ("visit", "0" * 24, ()),
            ("visit", "up", (("a", BIG), ("b", -BIG)) + tuple((word, 0) for word in "cdefgh")),
        ):
            self.assertIs(type(told(*START).do(deed)), list, deed)

    def test_no_deeds(self):
        kinds = tuple(THINGS)
        for thing in ODD + (
            0, 1, (), "layer", "visit a -", "pause soap", ["pause", "soap"], ["visit", "c", ()], [("pause", "soap")],
            (("pause", "soap"),), ("pause soap",), ("Pause", "soap"), ("pause ", "soap"), ("paus", "soap"),
            ("open", "soap"), ("", "soap"), (None, "soap"), (0, "soap"), (True, "soap"), (["pause"], "soap"),
            (("pause",), "soap"), ((), "soap"), ("place", "up", "a"), ("stand", "a"), ("text",), (kinds, "soap"),
            (list(kinds), "soap"), kinds,
        ):
            self.check(thing, NoDeed)

    # One thing too few, one too many, none at all, and in the place of the right ones.
    def test_how_many_things(self):
        for kind in THINGS:
            deed = with_things(kind, FITS)
            for many in range(len(deed)):
                self.check(deed[:many], NoDeed)
            for more in (None, (), [], "soap", 0):
                self.check(deed + (more,), NoDeed)
            self.check(deed + deed, NoDeed)
            self.check(list(deed), NoDeed)
            self.check((deed,), NoDeed)
            self.check(([kind],) + deed[1:], NoDeed)
            self.check((kind.upper(),) + deed[1:], NoDeed)
            self.check(deed[1:], NoDeed)
            self.check((kind,) + (None,) * len(deed), NoDeed)

    def test_each_fault_by_itself(self):
        for kind, things in THINGS.items():
            for thing in things:
                for fault, refusal in FAULTS[thing]:
                    self.check(with_things(kind, dict(FITS, **{thing: fault})), refusal)

    def test_of_two_faults_the_left_one(self):
        for kind, things in THINGS.items():
            for left, right in itertools.combinations(things, 2):
                for (refusal, fault), (_, other) in itertools.product(chosen(left), chosen(right)):
                    self.check(with_things(kind, dict(FITS, **{left: fault, right: other})), refusal)

    def test_all_things_at_fault(self):
        for kind, things in THINGS.items():
            for refusal, fault in chosen(things[0]):
                others = {thing: chosen(thing)[-1][1] for thing in things[1:]}
                self.check(with_things(kind, dict(FITS, **others, **{things[0]: fault})), refusal)

    # The number of numbers is that of the arms of this trial.
    def test_as_many_as_arms(self):
        for numbers in ((), (1, 1), [1], 1, (1, 1, 1, 1)):
            self.check(("share", "rope", numbers), NoNumber)
            self.check(("deal", "rope", 1, numbers), NoNumber)

    def test_closed(self):
        for deed in (
            ("share", "done", (0, 0)), ("share", "done", (1, 0)), ("deal", "done", 0, (1, 1)),
            ("deal", "done", 2, (1, 2)), ("pause", "done"), ("go", "done"), ("close", "done"),
        ):
            self.check(deed, Closed)

    def test_closed_behind_all_things(self):
        for kind, things in (("share", ("numbers",)), ("deal", ("total", "weights"))):
            for thing in things:
                for fault, refusal in FAULTS[thing]:
                    self.check(with_things(kind, dict(FITS, trial="done", **{thing: fault})), refusal)

    def test_closed_ahead_of_no_room(self):
        for deed in (
            ("share", "done", (8, 0)), ("share", "done", (3, 0)), ("share", "done", (BIG, BIG)),
            ("deal", "done", 8, (1, 1)), ("deal", "done", 1000, (1, BIG)),
        ):
            self.check(deed, Closed)

    def test_a_closed_trial_may_be_barred_from_and_be_a_shut(self):
        self.check_do(self.house, ("bar", "c", "done"), [])
        self.check_do(self.house, ("trial", "late", "up", ("x",), ANY, ("done",)), [])

    def test_no_room(self):
        for deed in (
            ("share", "soap", (7, 0)), ("share", "soap", (0, 7)), ("share", "soap", (4, 3)),
            ("share", "soap", (BIG, 0)), ("share", "soap", (0, 10 ** 59)), ("share", "rope", (8,)),
            ("deal", "soap", 7, (1, 1)), ("deal", "soap", 1000, (1, BIG)), ("deal", "rope", 8, (1,)), ("hold", "up", 4),
            ("hold", "up", BIG), ("hold", "down", 2), ("hold", "down", 10 ** 59),
        ):
            self.check(deed, NoRoom)

    def test_things_ahead_of_no_room(self):
        for deed in (
            ("share", "soap", (99, -1)), ("share", "soap", (True, 99)), ("share", "soap", (99, 99, 99)),
            ("deal", "soap", 1000, (1, 0)), ("deal", "soap", 1000, (1,)), ("deal", "soap", 1001, (1, 1)),
        ):
            self.check(deed, NoNumber)

    # Of a share that is refused nobody is out, though one arm would have shrunk.
    def test_no_room_where_an_arm_shrinks(self):
        for deed in (("share", "soap", (0, 7)), ("share", "soap", (7, 0)), ("deal", "soap", 7, (1, BIG))):
            self.check(deed, NoRoom)
            self.assertEqual(self.house.who("soap"), [("a", "old"), ("o", "old"), ("p", "old")])

    # To the last place, but not beyond it.
    def test_just_room(self):
        self.check_do(self.house, ("hold", "up", 3), [])
        self.before = self.everything(self.house)
        self.check(("share", "soap", (3, 2)), NoRoom)
        self.check(("hold", "up", 4), NoRoom)
        self.check_do(self.house, ("share", "soap", (1, 3)), [("o", "soap", "old"), ("p", "soap", "old")])

    # What a refusal leaves behind: the deeds behind it are answered as without it.
    def test_deeds_behind_refusals(self):
        house = House(7, 0)
        plain = PlainHouse(7, 0)
        deeds = START + (("share", "soap", (1, 2)), ("visit", "c", ()), ("visit", "g", ()), ("close", "soap"))
        faults = dict(FITS, trial=[], layer=[], guest=[], new_layer=[], new_trial=[])
        refused = [with_things(kind, faults) for kind in THINGS]
        for deed in deeds:
            for wrong in refused + [("share", "soap", (99, 0)), ("share", "rope", (99,)), ("hold", "up", 99), None, []]:
                with self.assertRaises(SplitError):
                    house.do(wrong)
            self.check_do(house, deed, plain.do(deed))
        self.assertEqual(house.book(), list(deeds))

    def test_refused_in_a_new_house(self):
        house = House(2, 0)
        for deed, refusal in (
            (("layer", "up", 3), NoNumber), (("trial", "soap", "up", ("x",), ANY, ()), Unknown),
            (("share", "soap", (1,)), Unknown), (("hold", "up", 1), Unknown), (("bar", "a", "soap"), Unknown),
            (("close", "soap"), Unknown), (None, NoDeed), ((), NoDeed),
        ):
            self.check_refused(house, deed, refusal)
        self.check_do(house, ("visit", "a", ()), [])

    def test_slopes_by_the_prime(self):
        for prime in (2, 7, 997):
            house = House(prime, 0)
            self.check_refused(house, ("layer", "a", prime + 1), NoNumber)
            self.check_do(house, ("layer", "a", prime), [])
            self.check_refused(house, ("layer", "b", prime), Taken)
            self.check_refused(house, ("layer", "a", 0), Taken)
            self.check_do(house, ("layer", "b", 0), [])

    # A trial can't be told as its own shut, as it does not stand yet.
    def test_a_trial_as_its_own_shut(self):
        self.check(("trial", "late", "up", ("x",), ANY, ("late",)), Unknown)

    # A layer's name is free for a trial, and a trial's for a layer.
    def test_taken_by_their_like_alone(self):
        self.check_do(self.house, ("layer", "soap", 3), [])
        self.check_do(self.house, ("trial", "down", "soap", ("soap", "down"), ANY, ("soap",)), [])
        self.before = self.everything(self.house)
        self.check(("layer", "soap", 4), Taken)
        self.check(("trial", "down", "up", ("x",), ANY, ()), Taken)

    # The name of a closed trial is taken for ever.
    def test_taken_by_a_closed_trial(self):
        self.check(("trial", "done", "up", ("x",), ANY, ()), Taken)


if __name__ == "__main__":
    unittest.main()
