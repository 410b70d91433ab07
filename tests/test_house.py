import unittest

from plain_house import ANY, BIG, GUESTS, MARKS, ODD, HouseChecks, PlainHouse, everything, told

from layersplit.errors import NoHouse
from layersplit.house import House

UP = ("layer", "up", 0)
DOWN = ("layer", "down", 7)
SOAP = ("trial", "soap", "up", ("old", "new"), ANY, ())
ROPE = ("trial", "rope", "down", ("one", "two", "three"), ANY, ())


# A house with guests in both arms of soap: a, b, c in old by the place 0; g, h, i by
# the place 1 and n by the place 2 in new.
def with_guests():
    house = told(UP, SOAP, ("share", "soap", (1, 2)))
    for guest in "hniagcb":
        house.do(("visit", guest, ()))
    return house


class Making(HouseChecks):
    def test_primes_and_salts(self):
        for prime in (2, 3, 5, 7, 31, 991, 997):
            for salt in (0, 1, 997 ** 2, BIG - 1, BIG):
                house = House(prime, salt)
                self.assertEqual((house.prime(), house.salt()), (prime, salt))
                self.assertIs(type(house.prime()), int)
                self.assertIs(type(house.salt()), int)

    def test_by_names(self):
        house = House(salt=3, prime=5)
        self.assertEqual((house.prime(), house.salt()), (5, 3))

    def test_no_primes(self):
        for prime in (0, 1, 4, 6, 9, 49, 561, 961, 995, 996, 998, 999, 1009, -2, -3, -7, BIG, 10 ** 59, "7", "seven"):
            self.check_asked(House, NoHouse, prime, 0)
            self.check_asked(House, NoHouse, prime, BIG + 1)

    def test_no_salts(self):
        for salt in (-1, -BIG, BIG + 1, 10 ** 59, "0", "a"):
            for prime in (2, 7, 997, 4):
                self.check_asked(House, NoHouse, prime, salt)

    def test_any_things(self):
        for thing in ODD + ((), (7,), [7], (7, 0), [7, 0], ((7,),), "2", "0"):
            self.check_asked(House, NoHouse, thing, 0)
            self.check_asked(House, NoHouse, 7, thing)
            self.check_asked(House, NoHouse, thing, thing)

    # A truth is no number, though Python holds True for 1 and False for 0.
    def test_truths(self):
        for truth in (True, False):
            self.check_asked(House, NoHouse, 7, truth)
            self.check_asked(House, NoHouse, truth, 0)

    def test_a_new_house(self):
        house = House(7, 0)
        self.assertEqual((house.layers(), house.trials(), house.book()), ([], [], []))
        for guest in GUESTS:
            self.assertEqual((house.stand(guest), house.ever(guest), house.would(guest, ())), ([], [], []))

    def test_houses_are_free_of_one_another(self):
        first = House(7, 0)
        second = House(7, 0)
        before = self.everything(second)
        for deed in (UP, SOAP, ("share", "soap", (3, 4)), ("visit", "a", ())):
            first.do(deed)
        self.assertEqual(self.everything(second), before)


class Layers(HouseChecks):
    def test_stands_with_all_places_free(self):
        house = House(7, 0)
        self.check_do(house, UP, [])
        self.assertEqual(house.layers(), [("up", 0)])
        self.assertEqual([house.owner("up", place) for place in range(7)], [None] * 7)
        self.check_do(house, DOWN, [])
        self.assertEqual(house.layers(), [("up", 0), ("down", 7)])

    # Neither by name nor by slope: as they were told.
    def test_order(self):
        house = told(("layer", "m", 3), ("layer", "z", 1), ("layer", "a", 7), ("layer", "k", 0))
        self.assertEqual(house.layers(), [("m", 3), ("z", 1), ("a", 7), ("k", 0)])

    def test_all_slopes(self):
        for prime in (2, 3, 7):
            house = House(prime, 4)
            for slope in range(prime + 1):
                self.check_do(house, ("layer", "abcdefgh"[slope], slope), [])
            self.assertEqual([slope for name, slope in house.layers()], list(range(prime + 1)))
        house = House(997, 4)
        self.check_do(house, ("layer", "a", 997), [])
        self.check_do(house, ("layer", "b", 0), [])
        self.assertEqual(house.layers(), [("a", 997), ("b", 0)])

    # The places by hand: z is the number 26, which is 3 times 7 and 5.
    def test_places_by_slopes(self):
        house = told(UP, DOWN, ("layer", "mid", 2))
        self.assertEqual([house.place(layer, "z") for layer in ("up", "down", "mid")], [3, 5, 6])
        self.assertEqual([house.place("up", guest) for guest in "afgmn9"], [0, 0, 1, 1, 2, 5])
        self.assertEqual([house.place("down", guest) for guest in "afgmn9"], [1, 6, 0, 6, 0, 1])


class Trials(HouseChecks):
    def test_stands_without_places(self):
        house = told(UP, DOWN)
        self.check_do(house, SOAP, [])
        self.check_do(house, ROPE, [])
        self.assertEqual(house.trials(), ["soap", "rope"])
        self.assertEqual((house.layer_of("soap"), house.layer_of("rope")), ("up", "down"))
        self.assertEqual((house.shares("soap"), house.shares("rope")), ((0, 0), (0, 0, 0)))
        self.assertEqual((house.places("soap", "old"), house.who("soap")), ([], []))
        self.assertEqual([house.owner("up", place) for place in range(7)], [None] * 7)

    def test_stands_open_and_not_paused(self):
        house = told(UP, SOAP, ("share", "soap", (7, 0)))
        self.check_do(house, ("visit", "a", ()), [("up", "soap", "old")])

    def test_order(self):
        house = told(UP, DOWN)
        for name, layer in (("m", "down"), ("z", "up"), ("a", "down"), ("k", "up")):
            house.do(("trial", name, layer, ("x",), ANY, ()))
        self.assertEqual(house.trials(), ["m", "z", "a", "k"])

    def test_one_to_four_arms(self):
        for many in (1, 2, 3, 4):
            house = told(UP)
            arms = ("d", "b", "abcdefghijkl", "c")[:many]
            self.check_do(house, ("trial", "soap", "up", arms, ANY, ()), [])
            self.assertEqual(house.shares("soap"), (0,) * many)
            self.check_do(house, ("share", "soap", tuple(range(many))), [])
            self.assertEqual([len(house.places("soap", arm)) for arm in arms], list(range(many)))

    def test_none_to_eight_shuts(self):
        house = told(UP)
        names = []
        for many in range(9):
            self.check_do(house, ("trial", "trial" + "abcdefghi"[many], "up", ("x",), ANY, tuple(reversed(names))), [])
            names.append("trial" + "abcdefghi"[many])
        self.assertEqual(house.trials(), names)


class Shares(HouseChecks):
    def test_grows(self):
        house = told(UP, SOAP)
        self.check_do(house, ("share", "soap", (1, 2)), [])
        self.assertEqual((house.places("soap", "old"), house.places("soap", "new")), ([0], [1, 2]))
        self.check_do(house, ("share", "soap", (3, 3)), [])
        self.assertEqual((house.places("soap", "old"), house.places("soap", "new")), ([0, 3, 4], [1, 2, 5]))
        self.assertEqual(house.shares("soap"), (3, 3))
        owners = [("soap", arm) for arm in ("old", "new", "new", "old", "old", "new")]
        self.assertEqual([house.owner("up", place) for place in range(7)], owners + [None])

    def test_shrinks_by_the_last_taken(self):
        house = told(UP, SOAP, ("share", "soap", (1, 2)), ("share", "soap", (3, 3)))
        self.check_do(house, ("share", "soap", (2, 1)), [])
        self.assertEqual((house.places("soap", "old"), house.places("soap", "new")), ([0, 3], [1]))
        self.check_do(house, ("share", "soap", (0, 0)), [])
        self.assertEqual(house.shares("soap"), (0, 0))
        self.assertEqual([house.owner("up", place) for place in range(7)], [None] * 7)

    def test_both_at_once(self):
        house = told(UP, SOAP, ("share", "soap", (3, 4)))
        self.check_do(house, ("share", "soap", (6, 1)), [])
        self.assertEqual((house.places("soap", "old"), house.places("soap", "new")), ([0, 1, 2, 4, 5, 6], [3]))
        self.check_do(house, ("share", "soap", (1, 6)), [])
        self.assertEqual((house.places("soap", "old"), house.places("soap", "new")), ([0], [3, 1, 2, 4, 5, 6]))

    def test_answer_is_sorted_with_the_arm(self):
        house = with_guests()
        self.check_do(house, ("share", "soap", (0, 1)), [
            ("a", "soap", "old"), ("b", "soap", "old"), ("c", "soap", "old"), ("n", "soap", "new"),
        ])
        self.assertEqual(house.who("soap"), [("g", "new"), ("h", "new"), ("i", "new")])
        self.assertEqual((house.stand("a"), house.stand("g")), ([], [("up", "soap", "new")]))
        self.assertEqual(house.ever("a"), [("soap", "old")])

    # Texts are sorted, not told by visits or by numbers.
    def test_answer_is_sorted_by_texts(self):
        house = told(UP, SOAP, ("share", "soap", (7, 0)))
        guests = ("z", "b", "a1", "ab", "9", "10", "a")
        for guest in guests:
            house.do(("visit", guest, ()))
        self.check_do(house, ("close", "soap"), [
            (guest, "soap", "old") for guest in ("10", "9", "a", "a1", "ab", "b", "z")
        ])

    # b grows by the very place that a gave back: who was there by a is out, and
    # comes in again by b, at the next visit.
    def test_given_back_and_taken_again_at_once(self):
        house = told(UP, SOAP, ("share", "soap", (2, 0)), ("hold", "up", 5))
        for guest in "ag":
            house.do(("visit", guest, ()))
        self.check_do(house, ("share", "soap", (1, 1)), [("g", "soap", "old")])
        self.assertEqual(house.owner("up", 1), ("soap", "new"))
        self.assertEqual((house.stand("g"), house.who("soap")), ([], [("a", "old")]))
        self.assertEqual(house.ever("g"), [("soap", "old")])
        self.check_do(house, ("visit", "g", ()), [("up", "soap", "new")])
        self.assertEqual(house.ever("g"), [("soap", "old"), ("soap", "new")])

    def test_trials_beside(self):
        house = told(UP, SOAP, ("trial", "beside", "up", ("old", "new"), ANY, ()), ("share", "soap", (1, 1)))
        house.do(("share", "beside", (1, 2)))
        for guest in "agnu":
            house.do(("visit", guest, ()))
        self.check_do(house, ("share", "soap", (0, 0)), [("a", "soap", "old"), ("g", "soap", "new")])
        self.assertEqual(house.shares("beside"), (1, 2))
        self.assertEqual((house.places("beside", "old"), house.places("beside", "new")), ([2], [3, 4]))
        self.assertEqual(house.who("beside"), [("n", "old"), ("u", "new")])

    # The same place in another layer is another place.
    def test_layers_beside(self):
        house = told(UP, DOWN, SOAP, ROPE, ("share", "soap", (2, 0)), ("share", "rope", (2, 0, 0)))
        house.do(("visit", "a", ()))
        house.do(("visit", "g", ()))
        self.check_do(house, ("share", "soap", (0, 0)), [("a", "soap", "old"), ("g", "soap", "old")])
        self.assertEqual(house.who("rope"), [("a", "one"), ("g", "one")])
        self.assertEqual(house.shares("rope"), (2, 0, 0))

    def test_like_numbers_change_nothing(self):
        house = with_guests()
        before = self.everything(house)[5:]
        self.check_do(house, ("share", "soap", (1, 2)), [])
        self.assertEqual(self.everything(house)[5:], before)

    def test_of_a_paused_trial(self):
        house = with_guests()
        house.do(("pause", "soap"))
        self.check_do(house, ("share", "soap", (2, 1)), [("n", "soap", "new")])
        self.assertEqual(house.shares("soap"), (2, 1))

    def test_all_places(self):
        for prime in (2, 3, 997):
            house = told(("layer", "up", prime), SOAP, prime=prime)
            self.check_do(house, ("share", "soap", (0, prime)), [])
            self.assertEqual(house.places("soap", "new"), list(range(prime)))
            self.check_do(house, ("share", "soap", (prime, 0)), [])
            self.assertEqual(house.places("soap", "old"), list(range(prime)))


class Deals(HouseChecks):
    def test_grows_shrinks_and_both(self):
        house = told(UP, SOAP)
        self.check_do(house, ("deal", "soap", 6, (1, 2)), [])
        self.assertEqual((house.places("soap", "old"), house.places("soap", "new")), ([0, 1], [2, 3, 4, 5]))
        for guest in "agnu":
            house.do(("visit", guest, ()))
        self.check_do(house, ("deal", "soap", 3, (1, 2)), [("g", "soap", "old")])
        self.assertEqual((house.places("soap", "old"), house.places("soap", "new")), ([0], [2, 3]))
        self.check_do(house, ("deal", "soap", 7, (BIG, 1)), [("n", "soap", "new"), ("u", "soap", "new")])
        self.assertEqual(house.shares("soap"), (7, 0))
        self.check_do(house, ("deal", "soap", 0, (1, BIG)), [("a", "soap", "old")])
        self.assertEqual(house.shares("soap"), (0, 0))

    # Of like weights the first has it.
    def test_like_weights(self):
        house = told(UP, DOWN, ROPE)
        for total, shares in ((1, (1, 0, 0)), (2, (1, 1, 0)), (4, (2, 1, 1)), (5, (2, 2, 1)), (0, (0, 0, 0))):
            self.check_do(house, ("deal", "rope", total, (9, 9, 9)), [])
            self.assertEqual(house.shares("rope"), shares)

    def test_greatest_totals(self):
        house = told(("layer", "up", 3), SOAP, prime=997)
        self.check_do(house, ("deal", "soap", 997, (1, 1)), [])
        self.assertEqual(house.shares("soap"), (499, 498))


class Holds(HouseChecks):
    def test_grows_and_shrinks(self):
        house = told(UP, SOAP, ("share", "soap", (1, 0)))
        self.check_do(house, ("hold", "up", 2), [])
        self.assertEqual([house.owner("up", place) for place in range(4)], [("soap", "old"), ("", ""), ("", ""), None])
        self.check_do(house, ("share", "soap", (2, 0)), [])
        self.check_do(house, ("hold", "up", 3), [])
        self.assertEqual(house.places("soap", "old"), [0, 3])
        self.assertEqual(house.owner("up", 4), ("", ""))
        # The place that was held last is free first.
        self.check_do(house, ("hold", "up", 2), [])
        self.assertIsNone(house.owner("up", 4))
        self.check_do(house, ("hold", "up", 1), [])
        self.assertEqual([house.owner("up", place) for place in (1, 2)], [("", ""), None])
        self.check_do(house, ("hold", "up", 0), [])
        self.assertEqual([house.owner("up", place) for place in (1, 2)], [None, None])

    # A number tells how many are held, not how many more.
    def test_a_like_number(self):
        house = told(UP, ("hold", "up", 7))
        self.check_do(house, ("hold", "up", 7), [])
        self.assertEqual([house.owner("up", place) for place in range(7)], [("", "")] * 7)

    def test_nought_at_first(self):
        house = told(UP)
        self.check_do(house, ("hold", "up", 0), [])
        self.assertIsNone(house.owner("up", 0))

    def test_keeps_who_is_in(self):
        house = with_guests()
        before = house.who("soap")
        for number in (4, 1, 0, 3):
            self.check_do(house, ("hold", "up", number), [])
            self.assertEqual(house.who("soap"), before)
            self.assertEqual(house.shares("soap"), (1, 2))

    def test_layers_beside(self):
        house = told(UP, DOWN, ("hold", "up", 3), ("hold", "down", 1))
        held = [[house.owner(layer, place) for place in range(7)].count(("", "")) for layer in ("up", "down")]
        self.assertEqual(held, [3, 1])


class PauseAndGo(HouseChecks):
    def test_twice(self):
        house = told(UP, SOAP, ("share", "soap", (7, 0)), ("visit", "a", ()))
        self.check_do(house, ("go", "soap"), [])
        self.check_do(house, ("visit", "b", ()), [("up", "soap", "old")])
        self.check_do(house, ("pause", "soap"), [])
        self.check_do(house, ("visit", "c", ()), [])
        self.check_do(house, ("pause", "soap"), [])
        self.check_do(house, ("visit", "c", ()), [])
        self.assertEqual(house.who("soap"), [("a", "old"), ("b", "old")])
        self.check_do(house, ("go", "soap"), [])
        self.check_do(house, ("visit", "c", ()), [("up", "soap", "old")])
        self.check_do(house, ("go", "soap"), [])
        self.assertEqual(house.who("soap"), [("a", "old"), ("b", "old"), ("c", "old")])

    def test_trials_beside(self):
        house = told(UP, DOWN, SOAP, ROPE, ("share", "soap", (7, 0)), ("share", "rope", (7, 0, 0)))
        house.do(("pause", "soap"))
        self.check_do(house, ("visit", "a", ()), [("down", "rope", "one")])
        house.do(("go", "rope"))
        self.check_do(house, ("visit", "a", ()), [("down", "rope", "one")])


class Closes(HouseChecks):
    def test_guests_in_several_arms(self):
        house = with_guests()
        self.check_do(house, ("close", "soap"), [
            ("a", "soap", "old"), ("b", "soap", "old"), ("c", "soap", "old"),
            ("g", "soap", "new"), ("h", "soap", "new"), ("i", "soap", "new"), ("n", "soap", "new"),
        ])
        self.assertEqual((house.who("soap"), house.shares("soap")), ([], (0, 0)))
        self.assertEqual((house.places("soap", "old"), house.places("soap", "new")), ([], []))
        self.assertEqual([house.owner("up", place) for place in range(7)], [None] * 7)
        self.assertEqual((house.stand("a"), house.ever("a")), ([], [("soap", "old")]))

    def test_stands_for_ever(self):
        house = with_guests()
        house.do(("close", "soap"))
        self.assertEqual((house.trials(), house.layer_of("soap")), (["soap"], "up"))

    def test_without_places_or_guests(self):
        house = told(UP, SOAP)
        self.check_do(house, ("close", "soap"), [])
        house = told(UP, SOAP, ("share", "soap", (3, 4)), ("pause", "soap"))
        self.check_do(house, ("close", "soap"), [])
        self.assertEqual(house.shares("soap"), (0, 0))

    def test_its_places_are_free_for_others(self):
        house = told(UP, SOAP, ("trial", "beside", "up", ("x",), ANY, ()), ("share", "soap", (3, 4)))
        house.do(("visit", "a", ()))
        house.do(("close", "soap"))
        self.check_do(house, ("share", "beside", (7,)), [])
        self.check_do(house, ("visit", "a", ()), [("up", "beside", "x")])

    def test_trials_beside(self):
        house = told(UP, SOAP, ("trial", "beside", "up", ("x",), ANY, ()), ("share", "soap", (1, 0)))
        house.do(("share", "beside", (1,)))
        house.do(("visit", "a", ()))
        house.do(("visit", "g", ()))
        self.check_do(house, ("close", "soap"), [("a", "soap", "old")])
        self.assertEqual((house.who("beside"), house.shares("beside")), ([("g", "x")], (1,)))


class Bars(HouseChecks):
    def test_in_the_trial(self):
        house = with_guests()
        self.check_do(house, ("bar", "n", "soap"), [("n", "soap", "new")])
        self.assertEqual((house.stand("n"), house.ever("n")), ([], [("soap", "new")]))
        self.assertNotIn(("n", "new"), house.who("soap"))
        self.check_do(house, ("visit", "n", ()), [])
        self.assertEqual(house.shares("soap"), (1, 2))

    def test_barred_already(self):
        house = with_guests()
        house.do(("bar", "n", "soap"))
        self.check_do(house, ("bar", "n", "soap"), [])
        self.check_do(house, ("visit", "n", ()), [])

    def test_out_of_it(self):
        house = with_guests()
        house.do(("visit", "u", ()))
        self.check_do(house, ("bar", "u", "soap"), [])
        house.do(("share", "soap", (1, 6)))
        self.check_do(house, ("visit", "u", ()), [])
        self.check_do(house, ("visit", "v", ()), [("up", "soap", "new")])

    def test_never_seen(self):
        house = told(UP, SOAP, ("share", "soap", (7, 0)))
        self.check_do(house, ("bar", "never", "soap"), [])
        self.assertEqual((house.stand("never"), house.ever("never")), ([], []))
        self.check_do(house, ("visit", "never", ()), [])

    def test_closed_trial(self):
        house = with_guests()
        house.do(("close", "soap"))
        for guest in ("a", "never", "a"):
            self.check_do(house, ("bar", guest, "soap"), [])

    # From this trial, not from another of the layer, and this guest alone.
    def test_in_another_trial(self):
        house = told(UP, SOAP, ("trial", "beside", "up", ("x",), ANY, ()), ("share", "soap", (1, 0)))
        house.do(("visit", "a", ()))
        house.do(("visit", "b", ()))
        self.check_do(house, ("bar", "a", "beside"), [])
        self.assertEqual(house.who("soap"), [("a", "old"), ("b", "old")])
        self.check_do(house, ("bar", "a", "soap"), [("a", "soap", "old")])
        self.assertEqual(house.who("soap"), [("b", "old")])

    def test_for_ever(self):
        house = with_guests()
        house.do(("bar", "a", "soap"))
        for deed in (("pause", "soap"), ("go", "soap"), ("share", "soap", (0, 0)), ("share", "soap", (7, 0))):
            house.do(deed)
            self.check_do(house, ("visit", "a", ()), [])


class Names(HouseChecks):
    guests = ("a", "ab", "abc", "b", "bc", "c", "aa", "x1")
    some_marks = ((), (("a", 1),), (("ab", 1),))

    def test_all_with_the_same_name(self):
        house = told(("layer", "a", 0), ("trial", "a", "a", ("a", "b"), ("has", "a"), ()), ("share", "a", (1, 0)))
        self.check_do(house, ("visit", "a", ()), [])
        self.check_do(house, ("visit", "a", (("a", 0),)), [("a", "a", "a")])
        self.assertEqual(house.stand("a"), [("a", "a", "a")])
        self.assertEqual((house.ever("a"), house.who("a")), ([("a", "a")], [("a", "a")]))
        self.assertEqual((house.owner("a", 0), house.places("a", "a"), house.layer_of("a")), (("a", "a"), [0], "a"))
        self.check_do(house, ("bar", "a", "a"), [("a", "a", "a")])

    # A deed's first word and a rule's are names like others.
    def test_words_of_deeds(self):
        house = told(("layer", "layer", 0), ("trial", "trial", "layer", ("visit", "held", "free"), ("has", "any"), ()))
        self.check_do(house, ("share", "trial", (1, 1, 1)), [])
        self.check_do(house, ("visit", "a", (("any", 0),)), [("layer", "trial", "visit")])
        self.check_do(house, ("visit", "g", (("any", 0),)), [("layer", "trial", "held")])
        self.check_do(house, ("visit", "n", (("has", 0),)), [])

    def test_heads_of_one_another(self):
        house = told(
            ("layer", "ab", 0), ("layer", "a", 7),
            ("trial", "ab", "ab", ("ab", "a", "abc"), ("has", "ab"), ()),
            ("trial", "a", "ab", ("a", "ab"), ("has", "a"), ()),
            ("trial", "abc", "a", ("a",), ANY, ("ab",)),
        )
        house.do(("share", "ab", (1, 1, 1)))
        house.do(("share", "a", (1, 2)))
        self.assertEqual((house.shares("ab"), house.shares("a"), house.shares("abc")), ((1, 1, 1), (1, 2), (0,)))
        self.assertEqual((house.places("a", "ab"), house.places("ab", "a")), ([4, 5], [1]))
        house.do(("share", "abc", (7,)))
        self.check_do(house, ("visit", "a", (("a", 1),)), [("a", "abc", "a")])
        self.check_do(house, ("visit", "b", (("ab", 1),)), [("ab", "ab", "ab")])
        self.check_do(house, ("close", "a"), [])
        self.assertEqual((house.shares("ab"), house.who("ab")), ((1, 1, 1), [("b", "ab")]))

    # ab and c, a and bc: put together they read alike.
    def test_guests_and_trials_that_read_alike(self):
        house = told(
            ("layer", "x", 0), ("trial", "c", "x", ("d",), ANY, ()), ("share", "c", (7,)),
            ("layer", "y", 7), ("trial", "bc", "y", ("d",), ANY, ()), ("share", "bc", (7,)),
        )
        house.do(("bar", "ab", "c"))
        self.check_do(house, ("visit", "a", ()), [("x", "c", "d"), ("y", "bc", "d")])
        self.check_do(house, ("visit", "ab", ()), [("y", "bc", "d")])
        self.check_do(house, ("bar", "a", "bc"), [("a", "bc", "d")])
        self.assertEqual((house.who("bc"), house.who("c")), ([("ab", "d")], [("a", "d")]))

    def test_trials_and_arms_that_read_alike(self):
        house = told(
            ("layer", "x", 0), ("trial", "ab", "x", ("c", "abc"), ANY, ()), ("trial", "a", "x", ("bc", "c"), ANY, ()),
            ("share", "ab", (1, 1)), ("share", "a", (2, 1)),
        )
        self.assertEqual((house.places("ab", "c"), house.places("a", "bc"), house.places("a", "c")), ([0], [2, 3], [4]))
        house.do(("share", "a", (0, 1)))
        self.assertEqual((house.places("ab", "c"), house.places("a", "bc"), house.places("a", "c")), ([0], [], [4]))

    def test_longest_names(self):
        word = "abcdefghijkl"
        guest = "z9" * 12
        house = told(("layer", word, 0), ("trial", word, word, (word,), ("has", word), ()), ("share", word, (7,)))
        self.check_do(house, ("visit", guest, ((word, 1),)), [(word, word, word)])
        self.check_do(house, ("bar", guest, word), [(guest, word, word)])


class Own(HouseChecks):
    def test_by_names(self):
        house = House(prime=7, salt=0)
        self.assertEqual(house.do(deed=UP), [])
        house.do(deed=SOAP)
        house.do(deed=("share", "soap", (1, 2)))
        self.assertEqual(house.do(deed=("visit", "a", ())), [("up", "soap", "old")])

    # An answer that is changed changes nothing that is told later.
    def test_answers_that_are_changed(self):
        house = told(UP, DOWN, SOAP, ROPE)
        plain = PlainHouse(7, 0)
        for deed in house.book():
            plain.do(deed)
        for deed in (
            ("share", "soap", (1, 2)), ("deal", "rope", 7, (1, 1, 1)), ("visit", "a", ()), ("visit", "a", ()),
            ("visit", "g", MARKS[1]), ("visit", "n", ()), ("share", "soap", (0, 3)), ("visit", "a", ()),
            ("hold", "up", 1), ("bar", "g", "soap"), ("bar", "g", "rope"), ("pause", "soap"), ("go", "soap"),
            ("layer", "mid", 3), ("trial", "late", "mid", ("x",), ANY, ("soap",)), ("close", "soap"), ("close", "rope"),
            ("hold", "up", 0),
        ):
            answer = house.do(deed)
            self.assertEqual(answer, plain.do(deed), deed)
            if answer:
                answer[0] = ("z", "z", "z")
            answer.append(("up", "soap", "old"))
            answer.reverse()
            self.assertEqual(self.everything(house), everything(plain, self.guests, self.some_marks), deed)

    def test_answers_stay_as_they_are(self):
        house = told(UP, SOAP, ("share", "soap", (1, 2)))
        visit = house.do(("visit", "a", ()))
        again = house.do(("visit", "a", ()))
        out = house.do(("share", "soap", (0, 2)))
        for deed in (("share", "soap", (1, 2)), ("visit", "a", ()), ("visit", "g", ()), ("close", "soap")):
            house.do(deed)
        self.assertEqual(visit, [("up", "soap", "old")])
        self.assertEqual(again, [("up", "soap", "old")])
        self.assertEqual(out, [("a", "soap", "old")])

    # Three hundred deeds, most of them comings and goings of the same guests.
    def test_three_hundred_deeds(self):
        deeds = [UP, SOAP]
        for turn in range(49):
            visits = [("visit", guest, ()) for guest in "agn"]
            deeds += [("share", "soap", (1 + turn % 2, 1))] + visits
            deeds += [("share", "soap", (0, 0)), ("hold", "up", turn % 3)]
        deeds += [("hold", "up", 0), ("share", "soap", (7, 0)), ("visit", "a", ()), ("visit", "a", ())]
        self.assertEqual(len(deeds), 300)
        house = House(7, 0)
        plain = PlainHouse(7, 0)
        for deed in deeds:
            self.check_do(house, deed, plain.do(deed))
        self.assertEqual(self.everything(house), everything(plain, self.guests, self.some_marks))
        self.assertEqual(house.who("soap"), [("a", "old")])
        self.assertGreater(len(house.ever("g")), 10)


if __name__ == "__main__":
    unittest.main()
