import copy
import string
import unittest

from layersplit.names import is_guest, is_whole, is_word

# All signs of texts: from the blank to ~, and the line feed.
ALL_SIGNS = [chr(number) for number in range(32, 127)] + ["\n"]


def deep(many):
    thing = ()
    for _ in range(many):
        thing = [thing]
    return thing


NO_NUMBERS_OR_TEXTS = (
    None, True, False, [], [1], ["a"], [[]], (), (1,), ("a",), ("a", "b"),
    [None, True, ("a", [1])], deep(29), ["a"] * 499, ("a",) * 499,
)
WHOLE = (
    0, 1, -1, 2, -2, 12, 997, -997, 10 ** 30, -10 ** 30,
    10 ** 59, 10 ** 60 - 1, 1 - 10 ** 60,
)


class Answers(unittest.TestCase):
    def check(self, function, thing, answer):
        before = copy.deepcopy(thing)
        with self.subTest(function=function.__name__, thing=thing):
            self.assertIs(function(thing), answer)
            self.assertIs(function(thing=thing), answer)
            self.assertEqual(repr(thing), repr(before))


class Whole(Answers):
    def test_whole_numbers(self):
        for thing in WHOLE:
            self.check(is_whole, thing, True)
        for thing in range(-1100, 1100):
            self.assertIs(is_whole(thing), True)

    def test_truths_are_none(self):
        self.check(is_whole, True, False)
        self.check(is_whole, False, False)

    def test_other_things_are_none(self):
        for thing in NO_NUMBERS_OR_TEXTS + ("", "a", "0", "1", "-1", " ", "\n"):
            self.check(is_whole, thing, False)


class Signs(Answers):
    # Each sign stands alone, ahead, within and at the end of fitting ones.
    def check_every_sign(self, function, fitting):
        for sign in ALL_SIGNS:
            answer = sign in fitting
            for text in (sign, sign + "soap", "so" + sign + "ap", "soap" + sign):
                self.check(function, text, answer)

    # The empty text, and each length up to well beyond the longest one.
    def check_every_length(self, function, longest, fitting):
        self.check(function, "", False)
        for many in range(1, 3 * longest):
            for sign in fitting:
                self.check(function, sign * many, many <= longest)

    # At the longest and the shortest length, one sign that does not fit.
    def check_wrong_sign_at_the_edges(self, function, longest, wrong):
        for sign in wrong:
            for where in range(longest):
                text = "a" * where + sign + "a" * (longest - 1 - where)
                self.check(function, text, False)
            self.check(function, "a" * longest + sign, False)
            self.check(function, sign + "a" * longest, False)


class Word(Signs):
    def test_every_sign(self):
        self.check_every_sign(is_word, list(string.ascii_lowercase))

    def test_every_length(self):
        self.check_every_length(is_word, 12, ("a", "m", "z"))

    def test_wrong_signs_at_the_edges(self):
        self.check_wrong_sign_at_the_edges(is_word, 12, ("A", "Z", "0", "9", " ", "\n", "-", "_", "~", "`", "{"))

    def test_words(self):
        for thing in ("soap", "abcdefghijkl", "mnopqrstuvwx", "yz", "any", "none"):
            self.check(is_word, thing, True)

    def test_other_texts(self):
        for thing in ("abcdefghijklm", "Soap", "soaP", "so ap", "ann7", "7", "7ann", "soap\n", "\nsoap", "a,b", "-"):
            self.check(is_word, thing, False)

    def test_other_things(self):
        for thing in NO_NUMBERS_OR_TEXTS + WHOLE:
            self.check(is_word, thing, False)


class Guest(Signs):
    def test_every_sign(self):
        self.check_every_sign(is_guest, list(string.ascii_lowercase + string.digits))

    def test_every_length(self):
        self.check_every_length(is_guest, 24, ("a", "z", "0", "9", "7"))

    def test_wrong_signs_at_the_edges(self):
        self.check_wrong_sign_at_the_edges(is_guest, 24, ("A", "Z", " ", "\n", "-", "_", "/", ":", "`", "{", "~"))

    def test_guests(self):
        for thing in ("ann7", "7ann", "a7n7", "ann", "777", "0", "00", "abcdefghijklmnopqrstuvwx", "yz0123456789",
                      "012345678901234567890123", "a1b2c3d4e5f6g7h8i9j0k1l2"):
            self.check(is_guest, thing, True)

    def test_other_texts(self):
        for thing in ("a1b2c3d4e5f6g7h8i9j0k1l2m", "0123456789012345678901234", "Ann7", "annA", "ann 7", "ann7 ",
                      " ann7", "ann7\n", "\nann7", "ann\n7", "-7", "1.0", "a,b"):
            self.check(is_guest, thing, False)

    def test_other_things(self):
        for thing in NO_NUMBERS_OR_TEXTS + WHOLE:
            self.check(is_guest, thing, False)


if __name__ == "__main__":
    unittest.main()
