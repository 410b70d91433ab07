import itertools
import unittest

from plain_house import ANY, BIG, ODD, HouseChecks, arms_told, plain_points, told

from layersplit.counting import points_in, points_in_both
from layersplit.errors import Unknown
from layersplit.house import House


# Layers of the slopes 0, of the prime and of 1, in the first of them two trials.
def house_with_arms(prime, salt=0):
    third = prime // 3
    return told(
        ("layer", "up", 0), ("layer", "down", prime), ("layer", "mid", 1),
        ("trial", "soap", "up", ("old", "new"), ANY, ()), ("trial", "rope", "up", ("old", "none"), ANY, ()),
        ("trial", "lamp", "down", ("old", "new", "all"), ANY, ()), ("trial", "comb", "mid", ("soap",), ANY, ()),
        ("share", "soap", (third, 1)), ("share", "rope", (1, 0)), ("share", "lamp", (1, third, 0)), ("hold", "mid", 1),
        ("share", "comb", (prime - 1,)), prime=prime, salt=salt,
    )


class Counting(HouseChecks):
    # All arms, and all pairs of them, held against a count over all points.
    def check_counts(self, house):
        arms = [(trial, arm) for trial, names in arms_told(house).items() for arm in names]
        for trial, arm in arms:
            number = points_in(house, trial, arm)
            self.assertIs(type(number), int)
            self.assertEqual(number, plain_points(house, (trial, arm)), (trial, arm))
            self.assertEqual(number, len(house.places(trial, arm)) * house.prime())
        for first, second in itertools.product(arms, arms):
            number = points_in_both(house, *first, *second)
            self.assertIs(type(number), int)
            self.assertEqual(number, plain_points(house, first, second), (first, second))
            if house.layer_of(first[0]) != house.layer_of(second[0]):
                self.assertEqual(number, len(house.places(*first)) * len(house.places(*second)))

    def test_all_arms_in_small_houses(self):
        for prime in (2, 3, 5, 7, 11, 13):
            for salt in (0, 12345, BIG):
                self.check_counts(house_with_arms(prime, salt))

    def test_by_hand(self):
        house = told(
            ("layer", "up", 0), ("layer", "down", 7), ("trial", "soap", "up", ("old", "new", "none"), ANY, ()),
            ("trial", "rope", "up", ("old",), ANY, ()), ("trial", "lamp", "down", ("old", "all"), ANY, ()),
            ("share", "soap", (2, 3, 0)), ("share", "rope", (1,)), ("share", "lamp", (0, 7)),
        )
        for trial, arm, number in (
            ("soap", "old", 14), ("soap", "new", 21), ("soap", "none", 0), ("rope", "old", 7), ("lamp", "old", 0),
            ("lamp", "all", 49),
        ):
            self.assertEqual(points_in(house, trial, arm), number)
            self.assertEqual(points_in_both(house, trial, arm, trial, arm), number)
        for trial, arm, other, there, number in (
            ("soap", "old", "soap", "new", 0), ("soap", "old", "soap", "none", 0), ("soap", "old", "rope", "old", 0),
            ("rope", "old", "soap", "new", 0), ("soap", "old", "lamp", "all", 14), ("lamp", "all", "soap", "new", 21),
            ("lamp", "all", "rope", "old", 7), ("lamp", "old", "soap", "new", 0), ("soap", "none", "lamp", "all", 0),
            ("lamp", "old", "lamp", "all", 0),
        ):
            self.assertEqual(points_in_both(house, trial, arm, other, there), number)
            self.assertEqual(points_in_both(house, other, there, trial, arm), number)

    # Each pair of slopes, 0 and the prime among them, with arms that are not alike.
    def test_each_pair_of_slopes(self):
        for prime in (2, 3, 5, 7):
            for first, second in itertools.permutations(range(prime + 1), 2):
                house = told(
                    ("layer", "a", first), ("layer", "b", second), ("trial", "a", "a", ("x", "y"), ANY, ()),
                    ("trial", "b", "b", ("y", "z"), ANY, ()), ("hold", "b", 1), ("share", "a", (prime // 2, 1)),
                    ("share", "b", (prime - 1, 0)), prime=prime,
                )
                self.check_counts(house)

    # Places that are not the first ones of the layer, and not taken in their order.
    def test_places_taken_anew(self):
        house = told(
            ("layer", "a", 2), ("layer", "b", 5), ("trial", "a", "a", ("x", "y", "z"), ANY, ()),
            ("trial", "b", "b", ("x", "y"), ANY, ()), ("hold", "a", 2), ("share", "a", (3, 2, 1)),
            ("share", "b", (4, 5)), ("hold", "a", 0), ("share", "a", (1, 5, 2)), ("share", "b", (6, 1)),
            ("share", "b", (0, 8)), ("hold", "b", 3), prime=11,
        )
        self.check_counts(house)

    def test_arms_of_no_places_and_of_all(self):
        for prime in (2, 5):
            house = told(
                ("layer", "a", 0), ("layer", "b", prime), ("trial", "a", "a", ("all", "none"), ANY, ()),
                ("trial", "b", "b", ("all", "none"), ANY, ()), prime=prime,
            )
            self.assertEqual(points_in(house, "a", "all"), 0)
            self.assertEqual(points_in_both(house, "a", "all", "b", "all"), 0)
            house.do(("share", "a", (prime, 0)))
            house.do(("share", "b", (prime, 0)))
            self.assertEqual(points_in(house, "a", "all"), prime * prime)
            self.assertEqual(points_in_both(house, "a", "all", "b", "all"), prime * prime)
            self.assertEqual(points_in_both(house, "a", "all", "a", "all"), prime * prime)
            self.assertEqual(points_in_both(house, "a", "all", "b", "none"), 0)
            self.assertEqual(points_in_both(house, "a", "all", "a", "none"), 0)
            self.check_counts(house)

    def test_great_house(self):
        house = told(
            ("layer", "a", 500), ("layer", "b", 997), ("trial", "a", "a", ("x", "y"), ANY, ()),
            ("trial", "b", "b", ("x",), ANY, ()), ("share", "a", (600, 397)), ("share", "b", (996,)), prime=997,
        )
        self.assertEqual(points_in(house, "a", "x"), 600 * 997)
        self.assertEqual(points_in_both(house, "a", "x", "b", "x"), 600 * 996)
        self.assertEqual(points_in_both(house, "a", "y", "a", "y"), 397 * 997)
        self.assertEqual(points_in_both(house, "a", "y", "a", "x"), 0)

    # The guests, the holds and whether a trial is paused count for nothing; a closed trial has none.
    def test_what_counts_not(self):
        house = house_with_arms(7)
        before = points_in(house, "lamp", "new"), points_in_both(house, "lamp", "new", "soap", "old")
        for deed in (("visit", "a", ()), ("bar", "a", "lamp"), ("pause", "lamp"), ("hold", "down", 2)):
            house.do(deed)
            now = points_in(house, "lamp", "new"), points_in_both(house, "lamp", "new", "soap", "old")
            self.assertEqual(now, before)
        house.do(("close", "lamp"))
        self.assertEqual(points_in(house, "lamp", "new"), 0)
        self.assertEqual(points_in_both(house, "lamp", "new", "soap", "old"), 0)
        self.assertEqual(points_in_both(house, "lamp", "new", "lamp", "new"), 0)


class Refused(HouseChecks):
    def setUp(self):
        self.house = house_with_arms(7)
        self.before = self.everything(self.house)
        # No names of trials, or no arms of the trial, but words, and things of all kinds.
        self.no_trials = ODD + ("up", "old", "nowhere", "x" * 13, 0, ("soap",), ["soap"], (), "Soap", "soap ")
        self.no_arms = ODD + ("none", "all", "soap", "up", "nowhere", 0, ("old",), ["old"], (), "Old", "old ")

    def check_unknown(self, ask, *things):
        self.check_asked(lambda *handed: ask(self.house, *handed), Unknown, *things)

    def test_points_in(self):
        for thing in self.no_trials:
            self.check_unknown(points_in, thing, "old")
            self.check_unknown(points_in, thing, thing)
        for thing in self.no_arms:
            self.check_unknown(points_in, "soap", thing)
        self.check_unknown(points_in, "rope", "new")
        self.assertEqual(self.everything(self.house), self.before)

    def test_points_in_both(self):
        for thing in self.no_trials:
            self.check_unknown(points_in_both, thing, "old", "soap", "old")
            self.check_unknown(points_in_both, "soap", "old", thing, "old")
            self.check_unknown(points_in_both, thing, thing, thing, thing)
        for thing in self.no_arms:
            self.check_unknown(points_in_both, "soap", thing, "soap", "old")
            self.check_unknown(points_in_both, "soap", "old", "soap", thing)
        # An arm of the one trial that is none of the other.
        self.check_unknown(points_in_both, "rope", "new", "soap", "old")
        self.check_unknown(points_in_both, "soap", "old", "rope", "new")
        self.check_unknown(points_in_both, "comb", "soap", "comb", "old")
        self.assertEqual(self.everything(self.house), self.before)

    def test_house_without_trials(self):
        for house in (House(7, 0), told(("layer", "up", 0))):
            self.check_asked(points_in, Unknown, house, "soap", "old")
            self.check_asked(points_in_both, Unknown, house, "soap", "old", "soap", "old")


class Own(HouseChecks):
    def test_by_names(self):
        house = house_with_arms(7)
        self.assertEqual(points_in(arm="new", trial="soap", house=house), 7)
        self.assertEqual(points_in(house=house, trial="soap", arm="old"), 14)
        self.assertEqual(points_in_both(there="new", other="lamp", arm="new", trial="soap", house=house), 2)
        self.assertEqual(points_in_both(house=house, trial="soap", arm="old", other="soap", there="old"), 14)

    def test_changes_nothing(self):
        house = house_with_arms(7)
        before = self.everything(house)
        for _ in range(2):
            points_in(house, "soap", "old")
            points_in_both(house, "soap", "old", "lamp", "new")
            points_in_both(house, "soap", "old", "soap", "old")
        self.assertEqual(self.everything(house), before)


if __name__ == "__main__":
    unittest.main()
