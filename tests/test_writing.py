import copy
import unittest

from plain_house import ANY, BIG, DEED_ROWS, RULE_TEXTS, HouseChecks, plain_row, plain_rule, plain_text, told, wrapped

from layersplit.errors import SplitError
from layersplit.house import House
from layersplit.writing import deed_text, house_text, rule_text

class Rules(unittest.TestCase):
    def test_by_hand(self):
        for rule, text in RULE_TEXTS:
            self.assertEqual(rule_text(rule), text)

    def test_many_within_one_another(self):
        rule = wrapped(4, lambda inner: ("both", inner, inner), ("has", "a"))
        text = wrapped(4, lambda inner: f"both {inner} {inner}", "has a")
        self.assertEqual(rule_text(rule), text)

    # Each of the six kinds within each of the three that hold others, on each side.
    def test_each_within_each(self):
        inmost = [ANY, ("has", "w"), ("least", "w", -7)]
        first = inmost + [("not", one) for one in inmost] + [("both", one, ANY) for one in inmost]
        first += [("either", ANY, one) for one in inmost]
        for one in first:
            for other in first:
                for rule in (("not", one), ("both", one, other), ("either", one, other)):
                    self.assertEqual(rule_text(rule), plain_rule(rule))


class Deeds(unittest.TestCase):
    def test_by_hand(self):
        for deed, row in DEED_ROWS:
            self.assertEqual(deed_text(deed), row)
            self.assertEqual(plain_row(deed), row)

    def test_each_number_of_things(self):
        words = ("one", "two", "three", "four", "five", "six", "seven", "eight")
        numbers = (0, 7, 10 ** 30, 997)
        for many in range(1, 5):
            listed = ",".join(words[:many])
            self.assertEqual(deed_text(("trial", "t", "l", words[:many], ANY, ())), f"trial t l {listed} - any")
            listed = ",".join(str(number) for number in numbers[:many])
            self.assertEqual(deed_text(("share", "t", numbers[:many])), f"share t {listed}")
            weights = (1, 7, 10 ** 30, 997)[:many]
            listed = ",".join(str(weight) for weight in weights)
            self.assertEqual(deed_text(("deal", "t", 5, weights)), f"deal t 5 {listed}")
        for many in range(9):
            listed = ",".join(words[:many]) or "-"
            self.assertEqual(deed_text(("trial", "t", "l", ("a",), ANY, words[:many])), f"trial t l a {listed} any")
            marks = tuple((word, k - 4) for k, word in enumerate(words[:many]))
            listed = ",".join(f"{word}={k - 4}" for k, word in enumerate(words[:many])) or "-"
            self.assertEqual(deed_text(("visit", "g", marks)), f"visit g {listed}")

    # Every rule in a trial's row, behind the shuts.
    def test_rules_in_rows(self):
        for rule, text in RULE_TEXTS:
            for shuts, written in (((), "-"), (("s",), "s"), (("t", "s"), "t,s")):
                self.assertEqual(deed_text(("trial", "a", "b", ("c",), rule, shuts)), f"trial a b c {written} {text}")


class Houses(HouseChecks):
    def test_without_deeds(self):
        for prime, salt, text in (
            (7, 0, "house 7 0"), (2, 5, "house 2 5"), (997, BIG, "house 997 1" + "0" * 30), (13, 10, "house 13 10"),
        ):
            self.assertEqual(house_text(House(prime, salt)), text)

    def test_one_deed(self):
        self.assertEqual(house_text(told(("layer", "up", 0))), "house 7 0\nlayer up 0")

    def test_all_deeds(self):
        house = told(
            ("layer", "upper", 3), ("trial", "mild", "upper", ("a",), ANY, ()),
            ("trial", "soap", "upper", ("old", "new"), ("least", "age", 18), ("mild",)), ("share", "soap", (3, 4)),
            ("deal", "soap", 5, (1, 2)), ("hold", "upper", 2), ("pause", "soap"), ("go", "soap"),
            ("bar", "ann7", "soap"), ("visit", "ann7", (("age", 20), ("size", -3))), ("visit", "ann7", ()),
            ("close", "soap"), salt=12,
        )
        self.assertEqual(house_text(house), "\n".join((
            "house 7 12", "layer upper 3", "trial mild upper a - any", "trial soap upper old,new mild least age 18",
            "share soap 3,4", "deal soap 5 1,2", "hold upper 2", "pause soap", "go soap", "bar ann7 soap",
            "visit ann7 age=20,size=-3", "visit ann7 -", "close soap",
        )))
        self.assertEqual(house_text(house), plain_text(house))

    # Refused deeds, ahead, between and behind, stand not in it; a deed told twice stands twice.
    def test_refused_deeds(self):
        house = House(7, 0)
        for deed in (
            ("hold", "up", 1), None, ("layer", "up", 8), ("layer", "up", 7), ("layer", "up", 6), ("visit", "a", ()),
            ("visit", "A", ()), ("visit", "a", ()), ("hold", "up", 8), ("hold", "up", 7), ("pause", "soap"),
        ):
            try:
                house.do(deed)
            except SplitError:
                pass
        self.assertEqual(house_text(house), "house 7 0\nlayer up 7\nvisit a -\nvisit a -\nhold up 7")

    # Told deed by deed: with each the text has one row more, and what was told stays as it was.
    def test_grows_by_rows(self):
        house = House(997, BIG)
        rows = ["house 997 1" + "0" * 30]
        texts = []
        deeds = (("layer", "soap", 997), ("trial", "soap", "soap", ("soap",), ANY, ()), ("deal", "soap", 997, (5,)))
        for deed in deeds:
            house.do(deed)
            rows.append(deed_text(deed))
            texts.append(house_text(house))
            self.assertEqual(texts[-1], "\n".join(rows))
        self.assertEqual(texts, ["\n".join(rows[:many]) for many in (2, 3, 4)])


class Own(HouseChecks):
    def test_by_names(self):
        self.assertEqual(rule_text(rule=("has", "age")), "has age")
        self.assertEqual(deed_text(deed=("hold", "upper", 2)), "hold upper 2")
        self.assertEqual(house_text(house=House(7, 3)), "house 7 3")

    def test_texts(self):
        for deed, row in DEED_ROWS:
            self.assertIs(type(deed_text(deed)), str)
        self.assertIs(type(rule_text(ANY)), str)
        self.assertIs(type(house_text(House(7, 0))), str)

    def test_nothing_is_changed(self):
        for deed, row in DEED_ROWS:
            handed = copy.deepcopy(deed)
            deed_text(deed)
            self.assertEqual(repr(deed), repr(handed))
        for rule, text in RULE_TEXTS:
            handed = copy.deepcopy(rule)
            rule_text(rule)
            self.assertEqual(repr(rule), repr(handed))
        house = told(("layer", "up", 0), ("trial", "soap", "up", ("old",), ANY, ()), ("share", "soap", (3,)))
        before = self.everything(house)
        self.assertEqual(house_text(house), house_text(house))
        self.assertEqual(self.everything(house), before)


if __name__ == "__main__":
    unittest.main()
