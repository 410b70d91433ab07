import copy
import string
import unittest

from layersplit.points import is_prime, point_of

SALTS = (0, 1, 2, 36, 996, 997, 1008, 1009, 997 * 997, 10 ** 15 + 7, 10 ** 30 - 1, 10 ** 30)


def plainly_prime(number):
    if number < 2 or number > 997:
        return False
    for divisor in range(2, number):
        if number % divisor == 0:
            return False
    return True


PRIMES = [number for number in range(2, 998) if plainly_prime(number)]


def sign_number(sign):
    if "a" <= sign <= "z":
        return ord(sign) - ord("a") + 1
    return ord(sign) - ord("0") + 27


# The mixing written out as one sum, not sign by sign.
def plain_point(p, salt, guest):
    long = len(guest)
    total = salt * 1009 ** long
    for k in range(long):
        total += sign_number(guest[k]) * 1009 ** (long - 1 - k)
    rest = total % (p * p)
    return (rest // p, rest % p)


# Names of each length, in which all signs come in turn.
def names_of_every_length():
    signs = string.ascii_lowercase + string.digits
    names = []
    for long in range(1, 25):
        names.append("".join(signs[(7 * long + 5 * k) % 36] for k in range(long)))
    return names + [sign for sign in signs] + [sign * 24 for sign in signs]


class Prime(unittest.TestCase):
    def test_every_number_to_beyond_the_bound(self):
        for number in range(-1100, 3000):
            with self.subTest(number=number):
                self.assertIs(is_prime(number), plainly_prime(number))

    def test_how_many(self):
        self.assertEqual(len([n for n in range(-10, 2000) if is_prime(n)]), 168)

    def test_edges(self):
        for number in (2, 3, 991, 997):
            self.assertIs(is_prime(number), True)
        # 1009 and 1013 are divided by nothing, but lie beyond 997.
        for number in (-997, -7, -3, -2, -1, 0, 1, 4, 9, 961, 995, 996, 998, 999, 1000, 1009, 1013):
            self.assertIs(is_prime(number), False)

    def test_truths(self):
        self.assertIs(is_prime(True), False)
        self.assertIs(is_prime(False), False)

    def test_numbers_of_many_figures(self):
        for number in (10 ** 30, 10 ** 30 + 57, 2 ** 61 - 1, 10 ** 59, 10 ** 60 - 1, 1 - 10 ** 60, -10 ** 30):
            self.assertIs(is_prime(number), False)

    def test_things_that_are_no_numbers(self):
        for thing in (None, "", "2", "7", "a", "997", [], [2], [7, 7], (), (2,), ("7",), [[7]], ["a"] * 499):
            with self.subTest(thing=thing):
                self.assertIs(is_prime(thing), False)

    def test_by_name_and_unchanged(self):
        self.assertIs(is_prime(thing=7), True)
        self.assertIs(is_prime(thing=8), False)
        thing = [2, [3], ("a", [5])]
        before = copy.deepcopy(thing)
        self.assertIs(is_prime(thing=thing), False)
        self.assertEqual(thing, before)


class Point(unittest.TestCase):
    def check(self, p, salt, guest):
        point = point_of(p, salt, guest)
        self.assertEqual(point, plain_point(p, salt, guest), (p, salt, guest))
        self.assertIs(type(point), tuple)
        for part in point:
            self.assertIs(type(part), int)
            self.assertTrue(0 <= part <= p - 1)

    # Reckoned by hand.
    def test_some_points(self):
        self.assertEqual(point_of(2, 0, "a"), (0, 1))
        self.assertEqual(point_of(2, 0, "b"), (1, 0))
        self.assertEqual(point_of(2, 0, "d"), (0, 0))
        self.assertEqual(point_of(7, 5, "z"), (3, 3))
        self.assertEqual(point_of(997, 0, "a"), (0, 1))
        self.assertEqual(point_of(997, 0, "z"), (0, 26))
        self.assertEqual(point_of(997, 0, "0"), (0, 27))
        self.assertEqual(point_of(997, 0, "9"), (0, 36))
        self.assertEqual(point_of(997, 1, "a"), (1, 13))
        self.assertEqual(point_of(997, 0, "ab"), (1, 14))
        self.assertEqual(point_of(997, 0, "ba"), (2, 25))

    def test_each_prime_with_each_salt(self):
        for p in PRIMES:
            for salt in SALTS:
                for guest in ("a", "z", "0", "9", "ann7", "7nna", "abcdefghijklmnopqrstuvwx", "yz0123456789"):
                    self.check(p, salt, guest)

    def test_each_sign_and_each_length(self):
        for p in (2, 3, 5, 7, 31, 101, 499, 991, 997):
            for salt in SALTS:
                for guest in names_of_every_length():
                    self.check(p, salt, guest)

    def test_two_guests_may_have_one_point(self):
        self.assertEqual(point_of(2, 0, "a"), point_of(2, 0, "e"))

    def test_by_names_and_in_order(self):
        self.assertEqual(point_of(p=7, salt=5, guest="z"), (3, 3))
        self.assertEqual(point_of(guest="z", p=7, salt=5), (3, 3))

    def test_nothing_is_changed_and_asked_twice_alike(self):
        p, salt, guest = 997, 10 ** 30, "ann7"
        first = point_of(p, salt, guest)
        self.assertEqual((p, salt, guest), (997, 10 ** 30, "ann7"))
        self.assertEqual(point_of(p, salt, guest), first)


if __name__ == "__main__":
    unittest.main()
