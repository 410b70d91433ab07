import unittest

from plain_house import ANY, BIG, HouseChecks, plain_text, told

from layersplit.books import first_refused, house_of
from layersplit.errors import BadRow, SplitError
from layersplit.house import House
from layersplit.reading import read_deed, read_house
from layersplit.writing import deed_text, house_text

DEEDS = (
    ("layer", "up", 0), ("trial", "soap", "up", ("old", "new"), ANY, ()), ("layer", "down", 7), ("visit", "a", ()),
    ("trial", "rope", "down", ("one", "two"), ("either", ("has", "age"), ("least", "b", -BIG)), ("soap",)),
    ("deal", "soap", 5, (2, 3)), ("share", "rope", (3, 3)), ("hold", "up", 1), ("visit", "a", (("age", 1),)),
    ("visit", "g", ()), ("pause", "soap"), ("visit", "n", (("age", 1),)), ("visit", "u", (("b", BIG), ("age", -1))),
    ("bar", "n", "rope"), ("go", "soap"), ("visit", "n", ()), ("share", "soap", (1, 4)), ("visit", "g", ()),
    ("share", "soap", (4, 1)), ("visit", "g", ()), ("trial", "lamp", "up", ("w", "x", "y", "z"), ANY, ("rope", "soap")),
    ("close", "soap"), ("bar", "a", "soap"), ("deal", "lamp", 6, (BIG, 1, 7, 7)), ("visit", "c", (("age", 1),)),
    ("close", "rope"),
)
ROWS = ("house 7 0",) + tuple(deed_text(deed) for deed in DEEDS)

# First rows that are not of a prime and a salt, or not just what is written.
WRONG_FIRST = (
    "", " ", "house", "house ", "house 7", "house 7 ", "house  7 0", "house 7  0", " house 7 0", "house 7 0 ",
    "house 7 0 0", "House 7 0", "HOUSE 7 0", "hous 7 0", "houses 7 0", "house7 0", "7 0", "house,7,0", "house 7,0",
    "house 07 0", "house 7 00", "house +7 0", "house 7 +0", "house 7 -0", "house -7 0", "house 7 -1", "house 0 0",
    "house 1 0", "house 4 0", "house 9 0", "house 6 0", "house 991027 0", "house 998 0", "house 1009 0", "house 999 0",
    "house seven 0", "house 7 a", "house - 0", "house 7 -", "house 7 " + str(BIG + 1), "house 7 " + "9" * 60,
    "house 7 1" + "0" * 60, "house 7 0" + "1" * 29, "house " + "7" * 60 + " 0", "house 1" + "0" * 60 + " 0",
    "house 7.0 0", "house 7 0.0", "house 7 1_0", "layer up 0", "text", "house 0 7", "-", "any", "~" * 100,
)

# Rows that are not just what is written of some deed.
NO_ROWS = (
    "", " ", "-", "layer", "layer mid 3 ", " layer mid 3", "layer  mid 3", "layer mid 03", "Layer mid 3", "layer mid",
    "layer abcdefghijklm 3", "visit a", "visit a b=-0", "visit a b=1,b=2", "deal soap 1001 1,2", "hold up -1",
    "house 7 0", "text", "stand a", "example any", "trial t up x - any any", "trial t up x any -", "share soap -", "ok",
)


class ReadHouse(HouseChecks):
    guests = HouseChecks.guests + ("f", "m", "z", "0")

    def check_bad(self, text, row):
        with self.assertRaises(SplitError) as caught:
            read_house(text)
        self.assertIs(type(caught.exception), BadRow, text)
        self.assertIs(type(caught.exception.row), int)
        self.assertEqual(caught.exception.row, row, text)

    def check_alike(self, text, house):
        read = read_house(text)
        self.assertIsInstance(read, House)
        self.assertEqual(self.everything(read), self.everything(house))
        self.assertEqual(house_text(read), text)
        return read


class Read(ReadHouse):
    def test_without_deeds(self):
        for prime, salt in ((2, 0), (3, 1), (7, 10), (997, BIG), (991, BIG - 1)):
            house = self.check_alike(f"house {prime} {salt}", House(prime, salt))
            self.assertEqual((house.prime(), house.salt(), house.book()), (prime, salt, []))

    # Behind each deed, and told the rest of the deeds the house that was read answers the same.
    def test_behind_each_deed(self):
        house = House(7, 0)
        answers = []
        for deed in DEEDS:
            answers.append(house.do(deed))
        for many in range(len(DEEDS) + 1):
            read = self.check_alike("\n".join(ROWS[:many + 1]), house_of(7, 0, list(DEEDS[:many])))
            self.assertEqual(read.book(), list(DEEDS[:many]))
            self.assertEqual([read.do(deed) for deed in DEEDS[many:]], answers[many:])
            self.assertEqual(self.everything(read), self.everything(house))

    def test_of_primes_and_salts(self):
        for prime, salt in ((5, 0), (7, 12345), (11, BIG), (997, 999)):
            house = House(prime, salt)
            for deed in DEEDS:
                try:
                    house.do(deed)
                except SplitError:
                    pass
            self.assertEqual(house_text(house), plain_text(house))
            self.check_alike(house_text(house), house)

    # The house that was written and the one that was read are free of one another.
    def test_of_its_own(self):
        house = told(*DEEDS[:12])
        before = self.everything(house)
        text = house_text(house)
        first = read_house(text)
        second = read_house(text)
        first.do(("close", "soap"))
        first.do(("visit", "b", ()))
        self.assertEqual(self.everything(second), before)
        self.assertEqual(self.everything(house), before)
        self.assertNotEqual(self.everything(first), before)

    # Three hundred deeds, and a text of nearly forty thousand signs.
    def test_long(self):
        words = ("abcdefghijkl", "abcdefghijkm", "abcdefghijkn", "abcdefghijko", "abcdefghijkp", "abcdefghijkq")
        marks = tuple((word, -BIG) for word in words[:2])
        house = told(("layer", "up", 0), prime=997, salt=BIG)
        for number in range(299):
            house.do(("visit", "abcdefghijklmnopqrst" + str(number), marks))
        text = house_text(house)
        self.assertGreater(len(text), 30000)
        self.assertLess(len(text), 40000)
        self.assertEqual(read_house(text).book(), house.book())
        self.assertEqual(house_text(read_house(text)), text)
        self.check_bad(text + "\n", 302)
        self.check_bad(text + "\nlayer up 0", 302)


class Bad(ReadHouse):
    def test_first_row(self):
        for first in WRONG_FIRST:
            self.check_bad(first, 1)
            self.check_bad(first + "\n", 1)
            self.check_bad(first + "\nlayer up 0", 1)
            self.check_bad(first + "\nnothing", 1)
            self.check_bad("\n".join((first,) + ROWS[1:]), 1)
        self.check_bad("\n" + "\n".join(ROWS), 1)
        self.check_bad("\n".join(ROWS[1:]), 1)

    def test_no_prime(self):
        primes = [n for n in range(2, 998) if all(n % d for d in range(2, n))]
        for number in range(1020):
            if number in primes:
                self.assertEqual(read_house(f"house {number} 3").prime(), number)
            else:
                self.check_bad(f"house {number} 3", 1)

    # At the start, in the middle and at the end: the first row that is wrong is told.
    def test_no_rows(self):
        for wrong in NO_ROWS:
            for place in range(1, len(ROWS) + 1):
                self.check_bad("\n".join(ROWS[:place] + (wrong,) + ROWS[place:]), place + 1)
            self.check_bad("\n".join(ROWS[:5] + (wrong, wrong) + ROWS[5:] + (wrong,)), 6)

    def test_line_feeds(self):
        text = "\n".join(ROWS)
        self.check_bad(text + "\n", len(ROWS) + 1)
        self.check_bad(text + "\n\n", len(ROWS) + 1)
        self.check_bad(text + "\n ", len(ROWS) + 1)
        self.check_bad(text + " ", len(ROWS))
        self.check_bad("house 7 0\n", 2)
        self.check_bad("house 7 0\n\nlayer up 0", 2)
        self.check_bad("\nhouse 7 0", 1)
        self.check_bad("\n", 1)
        self.check_bad("", 1)
        self.check_bad("\n\n".join(ROWS), 2)
        self.check_bad(" ".join(ROWS), 1)

    # Deeds that are written as they should be, but which the house refuses as it stands then.
    def test_refused_deeds(self):
        for refused in (
            "layer up 1", "layer mid 7", "layer mid 8", "layer mid " + "9" * 60, "trial soap up x - any",
            "trial late mid x - any", "trial late up x late any", "trial late up x soap,comb any", "share comb 1",
            "share lamp 1,2", "share lamp 1,2,3,4", "share soap 1,1", "deal lamp 5 1,2,3", "deal lamp 8 1,1,1,1",
            "deal soap 0 1,1", "hold mid 1", "hold up 8", "hold up " + "9" * 60, "pause soap", "go soap", "close soap",
            "pause comb", "bar a comb",
        ):
            read_deed(refused)
            self.check_bad("\n".join(ROWS + (refused,)), len(ROWS) + 1)
            self.check_bad("\n".join(ROWS + (refused, "visit a -", "")), len(ROWS) + 1)

    # It hangs on the rows ahead, and rows behind the first wrong one count for nothing.
    def test_as_it_stands_then(self):
        self.check_bad("house 7 0\nhold up 1\nlayer up 0", 2)
        self.check_bad("house 7 0\nlayer up 0\nhold up 1\nlayer up 0", 4)
        self.check_bad("house 7 0\nlayer up 0\ntrial a up x - any\nclose a\npause a\nnothing", 5)
        self.check_bad("house 7 0\nlayer up 0\ntrial a up x - any\npause a\nclose a\nclose a", 6)
        self.check_bad("house 2 0\nlayer up 0\nlayer down 3", 3)
        self.check_bad("house 2 0\nlayer up 0\nhold up 3", 3)
        for k in range(1, len(ROWS)):
            deeds = list(DEEDS[:k - 1] + DEEDS[k:])
            refused = first_refused(7, 0, deeds)
            text = "\n".join(ROWS[:k] + ROWS[k + 1:])
            if refused is None:
                self.assertEqual(read_house(text).book(), deeds)
            else:
                self.check_bad(text, refused + 2)


class Own(ReadHouse):
    def test_by_names(self):
        self.assertEqual(read_house(text="house 7 5").salt(), 5)
        with self.assertRaises(BadRow) as caught:
            read_house(text="house 7 5\n")
        self.assertEqual(caught.exception.row, 2)

    # The text of a house, read, is a house that comes of its book.
    def test_comes_of_the_book(self):
        house = told(*DEEDS)
        read = self.check_alike(house_text(house), house)
        self.assertEqual(self.everything(read), self.everything(house_of(7, 0, house.book())))
        self.assertEqual(read.book(), house.book())
        self.assertEqual(repr(read.book()), repr(house.book()))


if __name__ == "__main__":
    unittest.main()
