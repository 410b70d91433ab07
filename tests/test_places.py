import unittest

from layersplit.places import place_of, point_at, points_at

PRIMES = [n for n in range(2, 998) if all(n % d for d in range(2, n))]
SMALL = (2, 3, 5, 7, 11)


# Point 7 by adding and taking away alone.
def plain_place(p, slope, point):
    x, y = point
    if slope == p:
        return y
    place = x
    for _ in range(y):
        place += slope
        while place >= p:
            place -= p
    return place


# All points, rising by x, then by y.
def all_points(p):
    return [(x, y) for x in range(p) for y in range(p)]


def some_slopes(p):
    return sorted({0, 1, 2, p // 3, p // 2, p - 2, p - 1, p})


def some_numbers(p):
    return sorted({0, 1, p // 3, p // 2, p - 1})


class Checks(unittest.TestCase):
    def check_number(self, p, number):
        self.assertIs(type(number), int)
        self.assertTrue(0 <= number <= p - 1)

    def check_point(self, p, point):
        self.assertIs(type(point), tuple)
        self.assertEqual(len(point), 2)
        for part in point:
            self.check_number(p, part)


class PlaceOf(Checks):
    # Reckoned by hand.
    def test_some_places(self):
        self.assertEqual(place_of(7, 0, (4, 6)), 4)
        self.assertEqual(place_of(7, 1, (4, 6)), 3)
        self.assertEqual(place_of(7, 3, (4, 6)), 1)
        self.assertEqual(place_of(7, 6, (4, 6)), 5)
        self.assertEqual(place_of(7, 7, (4, 6)), 6)
        self.assertEqual(place_of(2, 1, (1, 1)), 0)
        self.assertEqual(place_of(2, 2, (0, 1)), 1)
        self.assertEqual(place_of(997, 996, (996, 996)), 0)
        self.assertEqual(place_of(997, 996, (0, 1)), 996)
        self.assertEqual(place_of(997, 997, (5, 996)), 996)

    def test_all_points_of_small_primes(self):
        for p in SMALL + (13,):
            for slope in range(p + 1):
                for point in all_points(p):
                    place = place_of(p, slope, point)
                    self.assertEqual(place, plain_place(p, slope, point), (p, slope, point))
                    self.check_number(p, place)

    def test_each_prime(self):
        for p in PRIMES:
            for slope in some_slopes(p):
                for point in ((0, 0), (0, p - 1), (p - 1, 0), (p - 1, p - 1), (p // 2, p // 3), (1, p // 2)):
                    place = place_of(p, slope, point)
                    self.assertEqual(place, plain_place(p, slope, point), (p, slope, point))
                    self.check_number(p, place)

    def test_by_names_and_unchanged(self):
        point = (4, 6)
        self.assertEqual(place_of(p=7, slope=3, point=point), 1)
        self.assertEqual(place_of(point=point, slope=7, p=7), 6)
        self.assertEqual(point, (4, 6))
        self.assertEqual(place_of(7, 3, point), 1)


class PointAt(Checks):
    # Reckoned by hand.
    def test_some_points(self):
        self.assertEqual(point_at(7, 0, 4, 7, 6), (4, 6))
        self.assertEqual(point_at(7, 7, 6, 0, 4), (4, 6))
        self.assertEqual(point_at(7, 1, 3, 3, 1), (4, 6))
        self.assertEqual(point_at(7, 3, 1, 7, 6), (4, 6))
        self.assertEqual(point_at(2, 0, 1, 1, 0), (1, 1))

    # Of two layers each pair of places comes at just one point.
    def test_every_pair_of_small_primes(self):
        for p in SMALL:
            for slope in range(p + 1):
                for other in range(p + 1):
                    if slope != other:
                        self.check_every_pair_of_places(p, slope, other)

    def check_every_pair_of_places(self, p, slope, other):
        found = {}
        for point in all_points(p):
            pair = (plain_place(p, slope, point), plain_place(p, other, point))
            found.setdefault(pair, []).append(point)
        for place in range(p):
            for there in range(p):
                point = point_at(p, slope, place, other, there)
                self.assertEqual([point], found[(place, there)], (p, slope, place, other, there))
                self.check_point(p, point)

    def check_by_its_places(self, p, slope, other):
        for place in some_numbers(p):
            for there in some_numbers(p):
                point = point_at(p, slope, place, other, there)
                self.check_point(p, point)
                places = (plain_place(p, slope, point), plain_place(p, other, point))
                self.assertEqual(places, (place, there), (p, slope, place, other, there))

    def test_greatest_prime(self):
        slopes = (0, 1, 2, 332, 498, 499, 995, 996, 997)
        for slope in slopes:
            for other in slopes:
                if slope != other:
                    self.check_by_its_places(997, slope, other)

    def test_every_slope_of_the_greatest_prime(self):
        for slope in range(997):
            for other in (slope + 1, 997):
                point = point_at(997, slope, 123, other, 456)
                self.check_point(997, point)
                self.assertEqual(place_of(997, slope, point), 123)
                self.assertEqual(place_of(997, other, point), 456)

    def test_every_prime(self):
        for p in PRIMES:
            for slope, other in ((0, p), (p, 0), (p - 1, p), (p, p - 1), (0, 1), (1, 0), (0, p - 1)):
                point = point_at(p, slope, p - 1, other, p // 2)
                self.check_point(p, point)
                self.assertEqual(plain_place(p, slope, point), p - 1)
                self.assertEqual(plain_place(p, other, point), p // 2)

    def test_either_layer_first(self):
        for slope, other in ((0, 7), (3, 7), (2, 5), (0, 6)):
            for place in range(7):
                for there in range(7):
                    first = point_at(7, slope, place, other, there)
                    self.assertEqual(point_at(7, other, there, slope, place), first)

    def test_by_names(self):
        self.assertEqual(point_at(p=7, slope=1, place=3, other=3, there=1), (4, 6))
        self.assertEqual(point_at(there=6, other=7, place=1, slope=3, p=7), (4, 6))


class PointsAt(Checks):
    # Reckoned by hand.
    def test_some_lists(self):
        self.assertEqual(points_at(3, 0, 2), [(2, 0), (2, 1), (2, 2)])
        self.assertEqual(points_at(3, 3, 2), [(0, 2), (1, 2), (2, 2)])
        self.assertEqual(points_at(3, 1, 0), [(0, 0), (1, 2), (2, 1)])
        self.assertEqual(points_at(3, 2, 1), [(0, 2), (1, 0), (2, 1)])
        self.assertEqual(points_at(2, 1, 1), [(0, 1), (1, 0)])

    def check(self, p, slope, place, searched):
        points = points_at(p, slope, place)
        self.assertIs(type(points), list)
        self.assertEqual(points, searched, (p, slope, place))
        self.assertEqual(len(points), p)
        for point in points:
            self.check_point(p, point)

    def test_every_place_of_small_primes(self):
        for p in SMALL + (13, 17):
            for slope in range(p + 1):
                for place in range(p):
                    searched = [point for point in all_points(p) if plain_place(p, slope, point) == place]
                    self.check(p, slope, place, searched)

    def test_greatest_prime(self):
        for slope in (0, 1, 2, 498, 996, 997):
            searched = [point for point in all_points(997) if place_of(997, slope, point) == 5]
            self.check(997, slope, 5, searched)

    def test_each_prime(self):
        for p in PRIMES:
            for slope in (0, 1, p - 1, p):
                points = points_at(p, slope, p - 1)
                self.assertEqual(len(points), p)
                self.assertEqual(points, sorted(set(points)))
                self.assertEqual({place_of(p, slope, point) for point in points}, {p - 1})

    def test_a_told_list_is_the_askers_own(self):
        for slope in (0, 2, 5):
            first = points_at(5, slope, 3)
            kept = list(first)
            first.append((9, 9))
            first[0] = None
            self.assertEqual(points_at(5, slope, 3), kept)
            second = points_at(5, slope, 3)
            second.clear()
            points_at(5, slope, 4).clear()
            self.assertEqual(points_at(5, slope, 3), kept)
            self.assertEqual(first, [None] + kept[1:] + [(9, 9)])

    def test_by_names(self):
        self.assertEqual(points_at(p=3, slope=1, place=0), [(0, 0), (1, 2), (2, 1)])
        self.assertEqual(points_at(place=2, p=3, slope=3), [(0, 2), (1, 2), (2, 2)])


if __name__ == "__main__":
    unittest.main()
