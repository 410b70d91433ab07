import copy
import unittest

from plain_house import ANY, BIG, ODD, HouseChecks, PlainHouse, everything, told

from layersplit.books import first_refused, house_of
from layersplit.errors import (
    Closed, NoArms, NoDeed, NoHouse, NoMarks, NoNumber, NoRoom, NoRule, NoShuts, NoWord, SplitError, Taken, Unknown,
)
from layersplit.house import House

DEEDS = (
    ("layer", "up", 0), ("trial", "soap", "up", ("old", "new"), ANY, ()), ("layer", "down", 7), ("visit", "a", ()),
    ("trial", "rope", "down", ("one", "two"), ("has", "age"), ("soap",)), ("deal", "soap", 5, (2, 3)),
    ("share", "rope", (3, 3)), ("hold", "up", 1), ("visit", "a", (("age", 1),)), ("visit", "g", ()), ("pause", "soap"),
    ("visit", "n", (("age", 1),)), ("visit", "u", (("age", 1),)), ("bar", "n", "rope"), ("go", "soap"),
    ("visit", "n", ()), ("share", "soap", (1, 4)), ("visit", "g", ()), ("share", "soap", (4, 1)), ("visit", "g", ()),
    ("visit", "h", ()), ("close", "soap"), ("bar", "a", "soap"), ("hold", "up", 0), ("visit", "a", (("age", 1),)),
    ("close", "rope"),
)

# A deed that is refused behind all of DEEDS, for each refusal that a deed can be due.
REFUSED = (
    (("layer", "Up", 1), NoWord), (("layer", "up", 1), Taken), (("layer", "mid", 7), Taken),
    (("layer", "mid", 8), NoNumber), (("trial", "late", "mid", ("x",), ANY, ()), Unknown),
    (("trial", "late", "up", (), ANY, ()), NoArms), (("trial", "late", "up", ("x",), (), ()), NoRule),
    (("trial", "late", "up", ("x",), ANY, []), NoShuts), (("visit", "a", []), NoMarks), (("pause", "soap"), Closed),
    (("hold", "up", 8), NoRoom), (("pause",), NoDeed), (None, NoDeed), ([], NoDeed), (["layer", "mid", 3], NoDeed),
    ("layer mid 3", NoDeed), (("layer", "mid", True), NoNumber),
)


class HouseOf(HouseChecks):
    def test_no_deeds(self):
        for prime, salt in ((2, 0), (7, 5), (997, BIG)):
            house = house_of(prime, salt, [])
            self.assertIsInstance(house, House)
            self.assertEqual((house.prime(), house.salt(), house.layers(), house.book()), (prime, salt, [], []))

    def test_as_told_one_by_one(self):
        for prime, salt in ((7, 0), (7, 12345), (31, BIG)):
            deeds = [deed for deed in DEEDS if deed[1:] != ("down", 7)]
            deeds.insert(2, ("layer", "down", prime))
            house = told(*deeds, prime=prime, salt=salt)
            self.assertEqual(self.everything(house_of(prime, salt, deeds)), self.everything(house))
            self.assertEqual(house_of(prime, salt, deeds).book(), deeds)

    def test_of_a_book(self):
        house = told(*DEEDS)
        again = house_of(house.prime(), house.salt(), house.book())
        self.assertEqual(self.everything(again), self.everything(house))
        self.assertIsNot(again, house)

    # The house of the first k deeds is the house as it stood then, and goes on as it did.
    def test_of_the_first_deeds(self):
        house = House(7, 0)
        stood = [self.everything(house)]
        answers = []
        for deed in DEEDS:
            answers.append(house.do(deed))
            stood.append(self.everything(house))
        for k in range(len(DEEDS) + 1):
            earlier = house_of(7, 0, house.book()[:k])
            self.assertEqual(self.everything(earlier), stood[k])
            self.assertEqual([earlier.do(deed) for deed in DEEDS[k:]], answers[k:])
            self.assertEqual(self.everything(earlier), stood[-1])

    def test_against_the_plain_one(self):
        plain = PlainHouse(7, 0)
        for k, deed in enumerate(DEEDS, start=1):
            plain.do(deed)
            house = house_of(7, 0, list(DEEDS[:k]))
            self.assertEqual(self.everything(house), everything(plain, self.guests, self.some_marks))

    def test_houses_are_free_of_one_another(self):
        deeds = list(DEEDS[:10])
        first = house_of(7, 0, deeds)
        second = house_of(7, 0, deeds)
        before = self.everything(second)
        first.do(("close", "soap"))
        first.do(("visit", "never", ()))
        self.assertEqual(self.everything(second), before)
        again = house_of(7, 0, second.book())
        again.do(("close", "soap"))
        self.assertEqual(self.everything(second), before)

    def test_refused_as_the_first_that_is(self):
        for wrong, refusal in REFUSED:
            self.check_asked(house_of, refusal, 7, 0, list(DEEDS) + [wrong])
            self.check_asked(house_of, refusal, 7, 0, list(DEEDS) + [wrong, None, DEEDS[0]])
            self.check_asked(house_of, NoDeed, 7, 0, list(DEEDS) + [(), wrong])
        self.check_asked(house_of, Taken, 7, 0, [DEEDS[0], DEEDS[0], None])
        self.check_asked(house_of, Unknown, 7, 0, [DEEDS[1], DEEDS[0]])


class FirstRefused(HouseChecks):
    def test_none(self):
        for many in range(len(DEEDS) + 1):
            self.assertIsNone(first_refused(7, 0, list(DEEDS[:many])))

    def test_its_number(self):
        for wrong, refusal in REFUSED:
            number = first_refused(7, 0, list(DEEDS) + [wrong])
            self.assertEqual(number, len(DEEDS))
            self.assertIs(type(number), int)

    # Wherever it stands, and whatever stands behind it.
    def test_at_each_place(self):
        for k in range(len(DEEDS) + 1):
            for wrong in (None, ("layer", "up", True), ("hold", "up", BIG), ("visit", "A", ())):
                self.assertEqual(first_refused(7, 0, list(DEEDS[:k]) + [wrong] + list(DEEDS[k:])), k)
                self.assertEqual(first_refused(7, 0, list(DEEDS[:k]) + [wrong, wrong, []]), k)

    # A deed left out makes a later one refused, or none.
    def test_deeds_left_out(self):
        self.assertEqual(first_refused(7, 0, list(DEEDS[1:])), 0)
        self.assertEqual(first_refused(7, 0, list(DEEDS[:1] + DEEDS[2:])), 3)
        self.assertEqual(first_refused(7, 0, list(DEEDS[:2] + DEEDS[3:])), 3)
        self.assertIsNone(first_refused(7, 0, list(DEEDS[:3] + DEEDS[4:])))

    def test_deeds_twice(self):
        self.assertEqual(first_refused(7, 0, list(DEEDS) + list(DEEDS)), len(DEEDS))
        self.assertEqual(first_refused(7, 0, list(DEEDS) + [DEEDS[3], DEEDS[22], DEEDS[-1]]), len(DEEDS) + 2)

    def test_any_things(self):
        for thing in ODD:
            self.assertEqual(first_refused(7, 0, [thing]), 0)
            self.assertEqual(first_refused(7, 0, [DEEDS[0], thing, DEEDS[1]]), 1)
        self.assertEqual(first_refused(7, 0, list(ODD)), 0)

    # What is refused hangs on the prime.
    def test_by_primes(self):
        deeds = [("layer", "a", 3), ("layer", "b", 7), ("hold", "b", 8), ("layer", "c", 14)]
        for prime, number in ((2, 0), (5, 1), (7, 2), (11, 3), (17, None)):
            self.assertEqual(first_refused(prime, 0, deeds), number)

    def test_as_house_of(self):
        deeds = list(DEEDS)
        for k in range(len(deeds)):
            row = deeds[k:] + deeds[:k]
            number = first_refused(7, 0, row)
            if number is None:
                self.assertEqual(house_of(7, 0, row).book(), row)
            else:
                house = house_of(7, 0, row[:number])
                with self.assertRaises(SplitError) as caught:
                    house.do(row[number])
                self.check_asked(house_of, type(caught.exception), 7, 0, row)


class NoHouses(HouseChecks):
    def test_no_prime_and_no_salt(self):
        for ask in (house_of, first_refused):
            for thing in ODD + (0, 1, 4, 998, 1009, -7, BIG, "7", (7,), [7], ()):
                for deeds in ([], [DEEDS[0]], [None]):
                    self.check_asked(ask, NoHouse, thing, 0, deeds)
            for thing in ODD + (-1, BIG + 1, "0", (0,), [0], ()):
                for deeds in ([], [DEEDS[0]], [None]):
                    self.check_asked(ask, NoHouse, 7, thing, deeds)
            self.check_asked(ask, NoHouse, 4, -1, list(DEEDS))


class Own(HouseChecks):
    def test_by_names(self):
        deeds = list(DEEDS)
        self.assertEqual(house_of(deeds=deeds, salt=0, prime=7).book(), deeds)
        self.assertEqual(house_of(prime=7, salt=3, deeds=[]).salt(), 3)
        self.assertIsNone(first_refused(prime=7, salt=0, deeds=deeds))
        self.assertEqual(first_refused(deeds=[None], salt=0, prime=7), 0)

    def test_deeds_are_not_changed(self):
        for deeds in (list(DEEDS), [DEEDS[0], ["a", []], DEEDS[1]], [[]], []):
            handed = copy.deepcopy(deeds)
            first_refused(7, 0, deeds)
            self.assertEqual(deeds, handed)
            try:
                house_of(7, 0, deeds)
            except SplitError:
                pass
            self.assertEqual(deeds, handed)

    def test_a_list_that_was_handed_in_is_changed(self):
        deeds = list(DEEDS)
        house = house_of(7, 0, deeds)
        before = self.everything(house)
        deeds.append(("visit", "never", ()))
        deeds[0] = None
        self.assertEqual(self.everything(house), before)
        deeds.clear()
        self.assertEqual(self.everything(house), before)
        house.do(("visit", "never", ()))
        self.assertEqual(deeds, [])

    # The book is a list of the asker's own, also where a house is made of it.
    def test_a_book_that_is_changed(self):
        house = told(*DEEDS)
        before = self.everything(house)
        book = house.book()
        again = house_of(7, 0, book)
        book.reverse()
        book.pop()
        self.assertEqual(self.everything(house), before)
        self.assertEqual(self.everything(again), before)
        self.assertEqual(house.book(), list(DEEDS))


class Books(HouseChecks):
    def test_just_the_deeds_that_were_not_refused(self):
        house = House(7, 0)
        for deed in DEEDS:
            for wrong in (None, ("layer", "x", 99), ("visit", "A", ()), ("hold", "up", 99), ("go", "nowhere")):
                with self.assertRaises(SplitError):
                    house.do(wrong)
            house.do(deed)
        self.assertEqual(house.book(), list(DEEDS))
        self.assertEqual(self.everything(house_of(7, 0, house.book())), self.everything(house))

    # Also deeds that change nothing stand in it, as often as they were told.
    def test_deeds_that_change_nothing(self):
        deeds = [("layer", "up", 0), ("visit", "a", ()), ("visit", "a", ()), ("hold", "up", 0), ("hold", "up", 0)]
        self.assertEqual(told(*deeds).book(), deeds)

    def test_questions_stand_not_in_it(self):
        house = told(*DEEDS[:9])
        house.would("g", ())
        house.stand("a")
        house.who("soap")
        self.assertEqual(house.book(), list(DEEDS[:9]))


if __name__ == "__main__":
    unittest.main()
