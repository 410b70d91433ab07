import functools
import unittest

from layersplit.dealing import dealt

BIG = 10 ** 30
WEIGHTS = (
    (1,), (2,), (BIG,),
    (1, 1), (1, 2), (2, 1), (3, 2), (1, 1000), (1000, 1), (5, 5), (1, BIG), (BIG, 1), (BIG, BIG),
    (BIG, BIG - 1), (BIG - 1, BIG),
    (2 * 10 ** 29 + 1, 10 ** 29), (2 * 10 ** 29, 10 ** 29), (2 * 10 ** 29 - 1, 10 ** 29),
    (1, 1, 1), (1, 2, 3), (3, 2, 1), (6, 3, 2), (7, 7, 1), (1, 7, 7), (BIG, 1, BIG), (BIG - 2, BIG - 1, BIG),
    (1, 1, 1, 1), (1, 2, 3, 4), (4, 3, 2, 1), (12, 6, 4, 3), (3, 4, 6, 12), (2, 1, 1, 2), (1, 10, 100, 1000),
    (BIG, BIG, BIG, BIG), (BIG, BIG - 1, BIG - 2, BIG - 3), (BIG - 3, BIG - 2, BIG - 1, BIG), (BIG, 1, 1, 1),
    (10 ** 29 + 1, 10 ** 29, 2 * 10 ** 29 + 1, 2 * 10 ** 29), (10 ** 15, 10 ** 30, 1, 10 ** 16),
)
TOTALS = (0, 1, 2, 3, 4, 5, 6, 7, 8, 9, 10, 11, 12, 23, 24, 99, 100, 101, 500, 996, 997, 998, 999, 1000)


# Each claim is (weight, how many it would have then, which weight).
def compare_claims(one, another):
    left = one[0] * another[1]
    right = another[0] * one[1]
    if left != right:
        return -1 if left > right else 1
    return one[2] - another[2]


# Point 9 not step by step, but by sorting all that might be dealt: a weight's
# own claims fall, so the greatest ones come in just the order of the dealing.
def order_of_dealing(most, weights):
    claims = [(weight, k, w) for w, weight in enumerate(weights) for k in range(1, most + 1)]
    claims = sorted(claims, key=functools.cmp_to_key(compare_claims))
    return [claim[2] for claim in claims[:most]]


def plainly_dealt(order, total, weights):
    return tuple(order[:total].count(w) for w in range(len(weights)))


class Dealt(unittest.TestCase):
    # Reckoned by hand.
    def test_some(self):
        self.assertEqual(dealt(0, (5,)), (0,))
        self.assertEqual(dealt(1000, (5,)), (1000,))
        self.assertEqual(dealt(0, (1, 2, 3, 4)), (0, 0, 0, 0))
        self.assertEqual(dealt(1, (1, 2)), (0, 1))
        self.assertEqual(dealt(2, (1, 2)), (1, 1))
        self.assertEqual(dealt(2, (2, 1)), (2, 0))
        self.assertEqual(dealt(3, (1, 2)), (1, 2))
        self.assertEqual(dealt(10, (1, 2)), (3, 7))
        self.assertEqual(dealt(10, (1, 2, 3, 4)), (1, 2, 3, 4))
        self.assertEqual(dealt(7, (53, 24, 23)), (4, 2, 1))

    def test_of_several_the_first(self):
        self.assertEqual(dealt(1, (5, 5)), (1, 0))
        self.assertEqual(dealt(2, (5, 5)), (1, 1))
        self.assertEqual(dealt(3, (5, 5)), (2, 1))
        self.assertEqual(dealt(1, (1, 1, 1, 1)), (1, 0, 0, 0))
        self.assertEqual(dealt(2, (1, 1, 1, 1)), (1, 1, 0, 0))
        self.assertEqual(dealt(6, (1, 1, 1, 1)), (2, 2, 1, 1))
        self.assertEqual(dealt(1, (1, 7, 7)), (0, 1, 0))
        self.assertEqual(dealt(2, (BIG, BIG)), (1, 1))

    def test_nothing_near(self):
        self.assertEqual(dealt(1, (BIG - 1, BIG)), (0, 1))
        self.assertEqual(dealt(1, (BIG, BIG - 1)), (1, 0))
        self.assertEqual(dealt(3, (BIG - 1, BIG)), (1, 2))
        self.assertEqual(dealt(2, (2 * 10 ** 29, 10 ** 29)), (2, 0))
        self.assertEqual(dealt(2, (2 * 10 ** 29 + 1, 10 ** 29)), (2, 0))
        self.assertEqual(dealt(2, (2 * 10 ** 29 - 1, 10 ** 29)), (1, 1))
        self.assertEqual(dealt(2, (10 ** 29, 2 * 10 ** 29 + 1)), (0, 2))
        self.assertEqual(dealt(2, (10 ** 29, 2 * 10 ** 29)), (1, 1))
        self.assertEqual(dealt(1000, (BIG, 1)), (1000, 0))
        # Halves that are alike when they are cut down to whole numbers.
        self.assertEqual(dealt(2, (1, 3)), (0, 2))
        self.assertEqual(dealt(3, (2, 5)), (1, 2))
        self.assertEqual(dealt(4, (2, 7)), (1, 3))
        self.assertEqual(dealt(3, (2, 7)), (0, 3))

    def test_against_a_plain_reckoning(self):
        for weights in WEIGHTS:
            order = order_of_dealing(1000, weights)
            for total in TOTALS:
                told = dealt(total, weights)
                self.assertEqual(told, plainly_dealt(order, total, weights), (total, weights))
                self.assertIs(type(told), tuple)
                self.assertEqual({type(number) for number in told}, {int})
                self.assertEqual(sum(told), total)

    def test_small_weights_all(self):
        for first in range(1, 9):
            for second in range(1, 9):
                for third in range(1, 9):
                    weights = (first, second, third)
                    order = order_of_dealing(20, weights)
                    for total in (1, 2, 3, 7, 20):
                        self.assertEqual(dealt(total, weights), plainly_dealt(order, total, weights))

    def test_one_more_in_the_total(self):
        for weights in ((3,), (1, 2), (BIG - 1, BIG), (5, 5, 5), (9, 1, 4), (1, 2, 3, 4), (BIG, 7, BIG - 1, 10 ** 29)):
            last = dealt(0, weights)
            for total in list(range(1, 130)) + [1000]:
                if total == 1000:
                    last = dealt(999, weights)
                told = dealt(total, weights)
                more = sorted(told[k] - last[k] for k in range(len(weights)))
                self.assertEqual(more, [0] * (len(weights) - 1) + [1], (total, weights))
                last = told

    def test_by_names_and_unchanged(self):
        weights = (1, 2)
        self.assertEqual(dealt(total=10, weights=weights), (3, 7))
        self.assertEqual(dealt(weights=weights, total=3), (1, 2))
        self.assertEqual(weights, (1, 2))
        self.assertEqual(dealt(10, weights), (3, 7))


if __name__ == "__main__":
    unittest.main()
