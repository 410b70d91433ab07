import copy
import itertools
import unittest

from layersplit.errors import NoRoom, SplitError
from layersplit.tables import Table

# Owners that are unlike, though some of them look alike.
OWNERS = (
    "a", "", (), ("a",), ("",), ("", ""), ("a", "b"), ("b", "a"), "ab", "a\nb ~", ("soap", "old"), ("a",) * 9, "b", "c",
)


# Point 10 step by step, each taking with the number of its turn.
class Plain:
    def __init__(self, many):
        self.many = many
        self.turn = 0
        self.rows = {}

    def places_of(self, owner):
        own = [(turn, place) for place, (its, turn) in self.rows.items() if its == owner]
        return [place for turn, place in sorted(own)]

    def free(self):
        return [place for place in range(self.many) if place not in self.rows]

    def owner_of(self, place):
        return self.rows[place][0] if place in self.rows else None

    def told(self, wanted):
        before = dict(self.rows)
        back = []
        for owner, number in wanted:
            while len(self.places_of(owner)) > number:
                last = self.places_of(owner)[-1]
                self.rows.pop(last)
                back.append(last)
        for owner, number in wanted:
            while len(self.places_of(owner)) < number:
                if not self.free():
                    self.rows = before
                    return None
                self.turn += 1
                self.rows[min(self.free())] = (owner, self.turn)
        return back


# All that a Table of so many places tells.
def standing(many, table, owners=OWNERS):
    owned = [table.owner_of(place) for place in range(many)]
    return (owned, [table.places_of(owner) for owner in owners], table.free())


class Checks(unittest.TestCase):
    def check_refused(self, many, table, wanted):
        before = standing(many, table)
        handed = copy.deepcopy(wanted)
        with self.assertRaises(NoRoom):
            table.told(wanted)
        self.assertEqual(standing(many, table), before)
        self.assertEqual(wanted, handed)

    # Tells a Table and the plain one the same, and asks both.
    def check_told(self, table, plain, wanted):
        handed = copy.deepcopy(wanted)
        expected = plain.told(wanted)
        if expected is None:
            with self.assertRaises(NoRoom):
                table.told(wanted)
        else:
            back = table.told(wanted)
            self.assertIs(type(back), list)
            self.assertEqual(back, expected, wanted)
        self.assertEqual(wanted, handed)


class New(Checks):
    def test_all_is_free(self):
        for many in (1, 2, 3, 997):
            table = Table(many)
            self.assertEqual(table.free(), list(range(many)))
            for place in range(many):
                self.assertIsNone(table.owner_of(place))
            for owner in OWNERS:
                self.assertEqual(table.places_of(owner), [])

    def test_tables_are_free_of_one_another(self):
        first = Table(3)
        second = Table(3)
        first.told([("a", 2)])
        self.assertEqual(second.free(), [0, 1, 2])
        self.assertEqual(second.places_of("a"), [])
        self.assertIsNone(second.owner_of(0))

    def test_by_names(self):
        table = Table(many=4)
        self.assertEqual(table.told(wanted=[("a", 3)]), [])
        self.assertEqual(table.told(wanted=[("a", 2)]), [2])
        self.assertEqual(table.owner_of(place=1), "a")
        self.assertIsNone(table.owner_of(place=2))
        self.assertEqual(table.places_of(owner="a"), [0, 1])


class Told(Checks):
    def test_growing_takes_the_least_free(self):
        table = Table(6)
        self.assertEqual(table.told([("a", 2)]), [])
        self.assertEqual(table.told([("b", 1)]), [])
        self.assertEqual(table.told([("a", 4)]), [])
        self.assertEqual(table.places_of("a"), [0, 1, 3, 4])
        self.assertEqual(table.places_of("b"), [2])
        self.assertEqual(table.free(), [5])
        self.assertEqual([table.owner_of(place) for place in range(6)], ["a", "a", "b", "a", "a", None])

    def test_shrinking_gives_back_the_last_taken(self):
        table = Table(5)
        table.told([("a", 2), ("b", 1)])
        table.told([("a", 4)])
        self.assertEqual(table.told([("a", 1)]), [4, 3, 1])
        self.assertEqual(table.places_of("a"), [0])
        self.assertEqual(table.free(), [1, 3, 4])
        self.assertEqual(table.told([("a", 0)]), [0])
        self.assertEqual(table.places_of("a"), [])
        self.assertEqual(table.places_of("b"), [2])

    # The place taken last need not be the greatest one.
    def test_places_are_kept_in_the_order_of_taking(self):
        table = Table(5)
        table.told([("a", 1), ("b", 1), ("c", 1)])
        table.told([("a", 0)])
        table.told([("c", 3)])
        self.assertEqual(table.places_of("c"), [2, 0, 3])
        self.assertEqual(table.free(), [4])
        self.assertEqual(table.told([("c", 2)]), [3])
        self.assertEqual(table.told([("c", 1)]), [0])
        self.assertEqual(table.places_of("c"), [2])

    def test_a_like_number_changes_nothing(self):
        table = Table(5)
        table.told([("a", 2), ("b", 2)])
        before = standing(5, table)
        self.assertEqual(table.told([("b", 2), ("a", 2)]), [])
        self.assertEqual(table.told([]), [])
        self.assertEqual(standing(5, table), before)

    def test_who_takes_first(self):
        table = Table(5)
        table.told([("b", 2), ("a", 2)])
        self.assertEqual(table.places_of("b"), [0, 1])
        self.assertEqual(table.places_of("a"), [2, 3])

    def test_who_gives_back_first(self):
        for order, back in (("ab", [1, 0, 3]), ("ba", [3, 1, 0])):
            table = Table(5)
            table.told([("a", 2), ("b", 2)])
            numbers = {"a": 0, "b": 1}
            self.assertEqual(table.told([(owner, numbers[owner]) for owner in order]), back)

    # All give back ahead of the first who takes, wherever they stand in the list.
    def test_given_back_and_taken_by_the_same_list(self):
        table = Table(4)
        table.told([("a", 3)])
        self.assertEqual(table.told([("b", 3), ("a", 1)]), [2, 1])
        self.assertEqual(table.places_of("b"), [1, 2, 3])
        self.assertEqual(table.places_of("a"), [0])
        self.assertEqual(table.free(), [])

    def test_full_to_the_last_place(self):
        for many in (1, 2, 5, 997):
            table = Table(many)
            self.assertEqual(table.told([("a", many)]), [])
            self.assertEqual(table.places_of("a"), list(range(many)))
            self.assertEqual(table.free(), [])
            self.check_refused(many, table, [("b", 1)])
            self.assertEqual(table.told([("b", many), ("a", 0)]), list(reversed(range(many))))
            self.assertEqual(table.places_of("b"), list(range(many)))
            self.assertEqual(table.owner_of(many - 1), "b")

    def test_greatest_table(self):
        table = Table(997)
        table.told([("a", 500), ("b", 400)])
        self.assertEqual(table.free(), list(range(900, 997)))
        self.assertEqual(table.told([("c", 200), ("a", 300)]), list(range(499, 299, -1)))
        self.assertEqual(table.places_of("c"), list(range(300, 500)))
        self.check_refused(997, table, [("c", 298)])
        self.assertEqual(table.told([("c", 297)]), [])
        self.assertEqual(table.places_of("c"), list(range(300, 500)) + list(range(900, 997)))

    def test_all_owners(self):
        table = Table(2 * len(OWNERS))
        table.told([(owner, 1) for owner in OWNERS])
        table.told([(owner, 2) for owner in OWNERS])
        for k, owner in enumerate(OWNERS):
            self.assertEqual(table.places_of(owner), [k, len(OWNERS) + k])
            self.assertEqual(table.owner_of(k), owner)
            self.assertIs(type(table.owner_of(k)), type(owner))
        for k, owner in enumerate(OWNERS):
            self.assertEqual(table.told([(owner, 0)]), [len(OWNERS) + k, k])
            self.assertIsNone(table.owner_of(k))
        self.assertEqual(table.free(), list(range(2 * len(OWNERS))))

    def test_told_nought_ahead_of_any_other(self):
        for owner in OWNERS:
            table = Table(2)
            self.assertEqual(table.told([(owner, 0)]), [])
            self.assertEqual(table.places_of(owner), [])
            self.assertEqual(table.free(), [0, 1])
            self.assertEqual(table.told([(owner, 2)]), [])
            self.assertEqual(table.told([("other", 0)]), [])
            self.assertEqual(table.places_of(owner), [0, 1])


class Refused(Checks):
    def test_one_too_many(self):
        for many in (1, 3, 997):
            for number in (many + 1, many + 2, 10 ** 30):
                self.check_refused(many, Table(many), [("a", number)])

    def test_one_too_many_on_top(self):
        table = Table(3)
        table.told([("a", 2)])
        self.check_refused(3, table, [("a", 4)])
        self.check_refused(3, table, [("b", 2)])
        table.told([("a", 3)])
        self.assertEqual(table.places_of("a"), [0, 1, 2])

    def test_some_of_the_list_could_have_been_done(self):
        table = Table(4)
        table.told([("a", 2), ("", 1)])
        self.check_refused(4, table, [("ab", 1), ((), 1)])
        self.check_refused(4, table, [("a", 0), ("ab", 4)])
        self.check_refused(4, table, [("ab", 4), ("a", 0)])
        self.check_refused(4, table, [("a", 3), ("ab", 1)])
        self.check_refused(4, table, [("a", 1), ("", 0), ("ab", 4)])
        self.assertEqual(table.told([("ab", 3), ("a", 0)]), [1, 0])
        self.assertEqual(table.places_of("ab"), [0, 1, 3])

    # Also of a full Table, where no place is free.
    def test_giving_back_is_never_refused(self):
        table = Table(2)
        table.told([("a", 1), ("b", 1)])
        self.assertEqual(table.told([("a", 0), ("b", 0)]), [0, 1])
        self.assertEqual(table.free(), [0, 1])

    def test_is_a_refusal(self):
        with self.assertRaises(SplitError):
            Table(1).told([("a", 2)])


class Own(Checks):
    def test_told_lists_that_are_changed(self):
        table = Table(6)
        table.told([("a", 4), ("b", 1)])
        back = table.told([("a", 2)])
        before = standing(6, table)
        for told in (back, table.free(), table.places_of("a"), table.places_of("b"), table.places_of("c")):
            told.append(5)
            told[0] = 99
            self.assertEqual(standing(6, table), before)
            told.clear()
            self.assertEqual(standing(6, table), before)
        self.assertEqual(table.told([("a", 3)]), [])
        self.assertEqual(table.places_of("a"), [0, 1, 2])

    def test_told_lists_stay_as_they_are(self):
        table = Table(6)
        table.told([("a", 4)])
        back = table.told([("a", 2)])
        free = table.free()
        places = table.places_of("a")
        none = table.places_of("b")
        table.told([("a", 1), ("b", 4)])
        table.told([("a", 0), ("b", 1)])
        self.assertEqual(back, [3, 2])
        self.assertEqual(free, [2, 3, 4, 5])
        self.assertEqual(places, [0, 1])
        self.assertEqual(none, [])

    def test_handed_lists_that_are_changed(self):
        table = Table(6)
        wanted = [("a", 2), (("a", "b"), 3)]
        table.told(wanted)
        self.assertEqual(wanted, [("a", 2), (("a", "b"), 3)])
        before = standing(6, table)
        wanted[0] = ("c", 6)
        wanted.append(("d", 1))
        self.assertEqual(standing(6, table), before)
        wanted.clear()
        self.assertEqual(standing(6, table), before)

    def test_asking_changes_nothing(self):
        table = Table(4)
        table.told([("a", 2)])
        self.assertEqual(standing(4, table), standing(4, table))
        self.assertEqual(table.told([("b", 2)]), [])
        self.assertEqual(table.places_of("b"), [2, 3])


class AgainstThePlainOne(Checks):
    # All rows of two tellings to a small Table with two owners, and behind each
    # of them some third ones.
    def test_every_row_of_tellings(self):
        tellings = [[]]
        for number in range(4):
            tellings.append([("", number)])
            tellings.append([((), number)])
            for other in range(4):
                tellings.append([("", number), ((), other)])
                tellings.append([((), number), ("", other)])
        for first, second in itertools.product(tellings, tellings):
            table = Table(3)
            plain = Plain(3)
            self.check_told(table, plain, first)
            self.check_told(table, plain, second)
            for third in tellings[::5]:
                following = copy.deepcopy(table)
                plain_following = copy.deepcopy(plain)
                self.check_told(following, plain_following, third)
                self.assertEqual(standing(3, following, ("", ())), standing(3, plain_following, ("", ())))

    # A long row of tellings, by numbers that jump about.
    def test_long_rows(self):
        for many in (1, 5, 31):
            table = Table(many)
            plain = Plain(many)
            number = 1
            for turn in range(400):
                wanted = []
                for k in range(turn % 5):
                    number = (number * 1103 + 7919) % 1000003
                    wanted.append((OWNERS[(turn + 2 * k) % 11], number % (many // 2 + 2)))
                self.check_told(table, plain, wanted)
                self.assertEqual(standing(many, table), standing(many, plain))


if __name__ == "__main__":
    unittest.main()
