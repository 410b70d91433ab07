import unittest

from plain_house import ANY, BIG, MARKS, ODD, HouseChecks, PlainHouse, everything, place_by, told

from layersplit.errors import NoMarks, NoNumber, NoWord, Unknown

# Two layers and three trials, one of them closed, one paused; guests in and out.
START = (
    ("layer", "up", 0), ("layer", "down", 7), ("trial", "soap", "up", ("old", "new"), ANY, ()),
    ("trial", "rope", "down", ("one", "two"), ("has", "age"), ("soap",)),
    ("trial", "done", "up", ("old", "last"), ANY, ()), ("share", "done", (2, 1)), ("visit", "a", ()),
    ("visit", "g", ()), ("close", "done"), ("share", "soap", (1, 2)), ("hold", "up", 2), ("share", "rope", (3, 3)),
    ("visit", "c", ()), ("visit", "a", ()), ("visit", "n", (("age", 5),)), ("visit", "o", (("age", 5),)),
    ("share", "soap", (3, 1)), ("visit", "n", ()), ("bar", "c", "soap"), ("pause", "rope"),
)

NOWHERE = ("mid", "u", "upp", "soa", "soapy", "old", "one", "age", "layer", "any", "ann7", "z" * 13, "9")
NO_NAMES = ODD + NOWHERE + (0, 1, 7, BIG, (), ("up",), ("soap",), ["up"], ["soap"], (("up",),), "Up", "soap ", "up\n")
NO_GUESTS = ODD + (0, 1, 7, BIG, (), "ANN", "ann 7", "ann-7", "z" * 25, ("a",), ["a"], (("a",),))
NO_PLACES = ODD + (7, 8, 997, BIG, 10 ** 59, (), "0", "1", "a", (0,), [0], (1, 2))
NO_MARKS = ODD + (
    0, 1, "age=1", [("age", 1)], (("age",),), (["age", 1],), (("Age", 1),), (("age", BIG + 1),),
    (("age", 1), ("age", 1)), tuple((word, 1) for word in "abcdefghi"), ("age", 1), ANY,
)


class Answers(HouseChecks):
    def setUp(self):
        self.house = told(*START)

    def test_place(self):
        self.assertEqual([self.house.place("up", guest) for guest in ("a", "g", "z", "9", "never")][:4], [0, 1, 3, 5])
        self.assertEqual([self.house.place("down", guest) for guest in ("a", "g", "z", "9", "never")][:4], [1, 0, 5, 1])
        for guest in ("never", "ann7", "0" * 24, "z9" * 12):
            self.assertEqual(self.house.place("up", guest), place_by(7, 0, 0, guest))
            self.assertEqual(self.house.place("down", guest), place_by(7, 0, 7, guest))

    def test_place_by_primes_and_salts(self):
        for prime, salt in ((2, 1), (3, BIG), (31, 5), (997, BIG - 1)):
            house = told(("layer", "a", 0), ("layer", "b", prime), ("layer", "c", prime - 1), prime=prime, salt=salt)
            for guest in ("a", "ann7", "never", "9" * 24):
                places = [house.place(layer, guest) for layer in "abc"]
                self.assertEqual(places, [place_by(prime, salt, slope, guest) for slope in (0, prime, prime - 1)])

    # A place is the same before a visit and behind it, whatever the owners are.
    def test_place_stays(self):
        before = [self.house.place("up", guest) for guest in self.guests]
        for deed in (("visit", "u", ()), ("close", "soap"), ("hold", "up", 7), ("layer", "mid", 3)):
            self.house.do(deed)
            self.assertEqual([self.house.place("up", guest) for guest in self.guests], before)

    def test_owner(self):
        old, new, held = ("soap", "old"), ("soap", "new"), ("", "")
        self.assertEqual([self.house.owner("up", place) for place in range(7)], [old, new, old, held, held, old, None])
        one, two = ("rope", "one"), ("rope", "two")
        self.assertEqual([self.house.owner("down", place) for place in range(7)], [one, one, one, two, two, two, None])

    def test_places(self):
        self.assertEqual((self.house.places("soap", "old"), self.house.places("soap", "new")), ([0, 2, 5], [1]))
        self.assertEqual((self.house.places("rope", "one"), self.house.places("rope", "two")), ([0, 1, 2], [3, 4, 5]))
        self.assertEqual((self.house.places("done", "old"), self.house.places("done", "last")), ([], []))

    # In the order in which they were taken, which need not be rising.
    def test_places_in_the_order_of_taking(self):
        self.house.do(("share", "soap", (2, 1)))
        self.house.do(("hold", "up", 0))
        self.house.do(("share", "soap", (2, 4)))
        self.house.do(("share", "soap", (0, 4)))
        self.house.do(("share", "soap", (1, 5)))
        self.assertEqual((self.house.places("soap", "new"), self.house.places("soap", "old")), ([1, 3, 4, 5, 2], [0]))

    def test_shares(self):
        self.assertEqual([self.house.shares(trial) for trial in ("soap", "rope", "done")], [(3, 1), (3, 3), (0, 0)])
        self.assertIs(type(self.house.shares("soap")), tuple)

    def test_stand_ever_and_who(self):
        self.assertEqual(self.house.stand("a"), [("up", "soap", "old")])
        self.assertEqual(self.house.ever("a"), [("done", "old"), ("soap", "old")])
        self.assertEqual((self.house.stand("g"), self.house.ever("g")), ([], [("done", "old")]))
        self.assertEqual((self.house.stand("c"), self.house.ever("c")), ([], [("soap", "old")]))
        self.assertEqual(self.house.stand("n"), [("up", "soap", "old")])
        self.assertEqual(self.house.ever("n"), [("soap", "new"), ("soap", "old")])
        self.assertEqual((self.house.stand("o"), self.house.ever("o")), ([], [("soap", "new")]))
        self.assertEqual(self.house.who("soap"), [("a", "old"), ("n", "old")])
        self.assertEqual((self.house.who("rope"), self.house.who("done")), ([], []))

    # Sorted by the guests, not by visits or arms.
    def test_who_is_sorted(self):
        house = told(("layer", "up", 7), ("trial", "soap", "up", ("old", "new"), ANY, ()), ("share", "soap", (3, 4)))
        for guest in ("z", "b", "a9", "a", "ab", "10", "9", "d"):
            house.do(("visit", guest, ()))
        found = house.who("soap")
        self.assertEqual([guest for guest, arm in found], ["10", "9", "a", "a9", "ab", "b", "d", "z"])
        for guest, arm in found:
            self.assertEqual(arm, "old" if place_by(7, 0, 7, guest) < 3 else "new")

    def test_never_visited(self):
        self.house.do(("bar", "barred", "soap"))
        for guest in ("never", "barred", "up", "soap", "0", "z" * 24):
            self.assertEqual((self.house.stand(guest), self.house.ever(guest)), ([], []))

    def test_layers_and_trials(self):
        self.assertEqual(self.house.layers(), [("up", 0), ("down", 7)])
        self.assertEqual(self.house.trials(), ["soap", "rope", "done"])
        self.assertEqual([self.house.layer_of(trial) for trial in ("soap", "rope", "done")], ["up", "down", "up"])

    def test_book_prime_and_salt(self):
        self.assertEqual(self.house.book(), list(START))
        self.assertEqual((self.house.prime(), self.house.salt()), (7, 0))

    def test_would(self):
        self.assertEqual(self.house.would("b", ()), [("up", "soap", "old")])
        self.assertEqual(self.house.would("c", ()), [])
        self.house.do(("go", "rope"))
        self.assertEqual(self.house.would("b", (("age", 1),)), [("up", "soap", "old")])
        self.assertEqual(self.house.would("u", (("age", 1),)), [("down", "rope", "one")])
        self.assertEqual(self.house.would("u", ()), [])

    def test_against_the_plain_one(self):
        plain = PlainHouse(7, 0)
        for deed in START:
            plain.do(deed)
        self.assertEqual(self.everything(self.house), everything(plain, self.guests, self.some_marks))

    def test_by_names(self):
        house = self.house
        self.assertEqual(house.place(layer="up", guest="z"), 3)
        self.assertEqual(house.owner(layer="up", place=1), ("soap", "new"))
        self.assertEqual(house.places(trial="soap", arm="old"), [0, 2, 5])
        self.assertEqual(house.shares(trial="soap"), (3, 1))
        self.assertEqual(house.stand(guest="a"), [("up", "soap", "old")])
        self.assertEqual(house.ever(guest="g"), [("done", "old")])
        self.assertEqual(house.would(guest="b", marks=()), [("up", "soap", "old")])
        self.assertEqual(house.who(trial="rope"), [])
        self.assertEqual(house.layer_of(trial="rope"), "down")


class Refused(HouseChecks):
    def setUp(self):
        self.house = told(*START)
        self.before = self.everything(self.house)

    def tearDown(self):
        self.assertEqual(self.everything(self.house), self.before)

    def test_no_layer(self):
        for thing in NO_NAMES + ("soap", "rope", "done"):
            self.check_asked(self.house.place, Unknown, thing, "a")
            self.check_asked(self.house.owner, Unknown, thing, 0)

    def test_no_trial(self):
        for thing in NO_NAMES + ("up", "down"):
            self.check_asked(self.house.places, Unknown, thing, "old")
            for ask in (self.house.shares, self.house.who, self.house.layer_of):
                self.check_asked(ask, Unknown, thing)

    # Arms of another trial, heads of arms, and what is no arm at all.
    def test_no_arm(self):
        for thing in ODD + (0, 1, (), "one", "last", "ol", "olds", "soap", "up", ("old",), ["old"], "Old", "old "):
            self.check_asked(self.house.places, Unknown, "soap", thing)
        for trial, arm in (("rope", "old"), ("rope", "new"), ("rope", "last"), ("done", "new"), ("done", "one")):
            self.check_asked(self.house.places, Unknown, trial, arm)
        self.check_asked(self.house.places, Unknown, "soap", ("old", "new"))
        self.check_asked(self.house.places, Unknown, "", "")

    def test_no_guest(self):
        for thing in NO_GUESTS:
            self.check_asked(self.house.place, NoWord, "up", thing)
            self.check_asked(self.house.stand, NoWord, thing)
            self.check_asked(self.house.ever, NoWord, thing)
            self.check_asked(self.house.would, NoWord, thing, ())

    def test_no_place(self):
        for thing in NO_PLACES:
            self.check_asked(self.house.owner, NoNumber, "up", thing)

    def test_places_by_the_prime(self):
        for prime in (2, 3, 997):
            house = told(("layer", "up", 0), ("hold", "up", 1), prime=prime)
            self.assertEqual((house.owner("up", 0), house.owner("up", prime - 1)), (("", ""), None))
            self.check_asked(house.owner, NoNumber, "up", prime)
            self.check_asked(house.owner, NoNumber, "up", -1)

    def test_no_marks(self):
        for thing in NO_MARKS:
            self.check_asked(self.house.would, NoMarks, "a", thing)

    def test_the_left_one_first(self):
        for thing in (None, [], "nowhere", (), ["up"], True, 0):
            for other in (None, [], "", (), ["a"], True, -1, "A"):
                self.check_asked(self.house.place, Unknown, thing, other)
                self.check_asked(self.house.owner, Unknown, thing, other)
                self.check_asked(self.house.places, Unknown, thing, other)
        for thing in (None, [], "", (), ["a"], True, 0, "A"):
            for other in (None, [], "", ["a"], True, 0, (("age",),)):
                self.check_asked(self.house.would, NoWord, thing, other)

    def test_nothing_stands(self):
        house = told()
        for ask in (house.shares, house.who, house.layer_of):
            self.check_asked(ask, Unknown, "soap")
        self.check_asked(house.place, Unknown, "up", "a")
        self.check_asked(house.owner, Unknown, "up", 0)
        self.check_asked(house.places, Unknown, "soap", "old")

    # A closed trial stands, and is asked about like any other.
    def test_closed_trial(self):
        self.assertEqual((self.house.shares("done"), self.house.who("done")), ((0, 0), []))
        self.check_asked(self.house.places, Unknown, "done", "new")


class Own(HouseChecks):
    # Of each question a list, all of them asked anew.
    def lists(self, house):
        return (
            house.places("soap", "old"), house.places("done", "old"), house.stand("a"), house.stand("never"),
            house.ever("a"), house.ever("never"), house.would("a", ()), house.would("b", ()), house.would("u", ()),
            house.who("soap"), house.who("done"), house.layers(), house.trials(), house.book(),
        )

    def test_told_lists_that_are_changed(self):
        house = told(*START)
        before = self.everything(house)
        for k, one in enumerate(self.lists(house)):
            self.assertIs(type(one), list)
            one.append(("x", "y", "z"))
            one[0] = 99
            self.assertEqual(self.everything(house), before, k)
            one.clear()
            self.assertEqual(self.everything(house), before, k)
        self.check_do(house, ("close", "soap"), [("a", "soap", "old"), ("n", "soap", "old")])

    def test_told_lists_stay_as_they_are(self):
        house = told(*START)
        first = self.lists(house)
        second = self.lists(house)
        for deed in (
            ("visit", "a", ()), ("visit", "b", ()), ("layer", "mid", 3), ("trial", "late", "mid", ("x",), ANY, ()),
            ("share", "late", (7,)), ("visit", "a", ()), ("visit", "never", ()), ("close", "soap"), ("visit", "u", ()),
        ):
            house.do(deed)
        self.assertEqual(first, second)
        self.assertNotEqual(self.lists(house), first)

    # Two that are asked at once are not one and the same.
    def test_each_list_is_a_new_one(self):
        house = told(*START)
        for first, second in zip(self.lists(house), self.lists(house)):
            self.assertIsNot(first, second)

    def test_what_is_handed_in_is_not_changed(self):
        house = told(*START)
        marks = MARKS[2]
        house.would("a", marks)
        house.do(("visit", "b", marks))
        self.assertEqual(marks, (("age", 18), ("size", -3)))
        for thing in (["a", ["b"]], [("age", 1)], [[[]], 0]):
            before = repr(thing)
            for ask, things in (
                (house.place, (thing, thing)), (house.place, ("up", thing)), (house.owner, ("up", thing)),
                (house.places, ("soap", thing)), (house.shares, (thing,)), (house.stand, (thing,)),
                (house.ever, (thing,)), (house.would, ("a", thing)), (house.who, (thing,)), (house.layer_of, (thing,)),
                (house.do, (thing,)), (house.do, (("visit", "a", thing),)),
            ):
                with self.assertRaises(ValueError):
                    ask(*things)
                self.assertEqual(repr(thing), before)


if __name__ == "__main__":
    unittest.main()
