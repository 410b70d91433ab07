import random
import unittest
from collections import Counter

from plain_house import (
    ANY, ASKED, BIG, ODD, PlainHouse, arms_told, everything, holds, place_by, plain_marks, plain_read, plain_row,
    plain_rule, plain_say, plain_text, plain_tuples,
)

from layersplit.books import first_refused, house_of
from layersplit.counting import points_in, points_in_both
from layersplit.desk import Desk
from layersplit.errors import BadRow, NoRow, SplitError
from layersplit.house import House
from layersplit.reading import read_deed, read_house
from layersplit.writing import deed_text, house_text

# The rows of deeds are drawn from this seed, each with its own number behind it.
SEED = 20261116
LONGEST = 300
WORDS = ("a", "ab", "abc", "b", "bc", "c", "age", "old", "new", "soap", "layer", "any", "abcdefghijkl", "x", "y", "z")
GUESTS = ("a", "ab", "abc", "b", "bc", "c", "ann7", "ann70", "0", "a0", "zed", "soap", "z9z9z9z9z9z9z9z9z9z9z9z9")
MARKS = ((), (("a", 1),), (("ab", 0), ("a", 2)), (("age", 18), ("b", -1)))
KINDS = (
    ("visit", 40), ("share", 14), ("deal", 8), ("hold", 6), ("bar", 5), ("pause", 4), ("go", 6), ("close", 2),
    ("layer", 4), ("trial", 8),
)


# Draws deeds that mostly fit the house as it stands, with some among them that don't.
class Drawer:
    def __init__(self, number, prime):
        self.chance = random.Random(SEED * 1000 + number)
        self.prime = prime

    def one_of(self, things):
        return things[self.chance.randrange(len(things))]

    def up_to(self, most):
        return self.chance.randrange(most + 1)

    def some_of(self, things, least, most):
        return tuple(self.chance.sample(things, min(len(things), self.chance.randrange(least, most + 1))))

    def rule(self, depth=3):
        kind = self.one_of(("any", "any", "has", "least", "not", "both", "either"))
        word = self.one_of(("a", "ab", "age"))
        if kind == "any" or (depth == 0 and kind in ("not", "both", "either")):
            return ANY
        if kind == "has":
            return ("has", word)
        if kind == "least":
            return ("least", word, self.one_of((-1, 0, 1, 2, 18, BIG)))
        return (kind,) + tuple(self.rule(depth - 1) for _ in range(1 if kind == "not" else 2))

    def marks(self):
        words = self.some_of(("a", "ab", "age", "b", "size"), 0, 4)
        return tuple((word, self.one_of((-2, -1, 0, 1, 2, 17, 18, -BIG, BIG))) for word in words)

    def number(self):
        return self.one_of((0, 0, 1, 1, 2, self.prime // 4, self.prime // 3, self.prime // 2, self.up_to(self.prime)))

    # A name of those that stand, seldom another.
    def name(self, names):
        return self.one_of(names) if names and self.up_to(30) else self.one_of(WORDS)

    # Mostly one that is not closed.
    def trial(self, house):
        closed = [deed[1] for deed in house.book() if deed[0] == "close"]
        going = [name for name in house.trials() if name not in closed]
        return self.name(going if self.up_to(6) else house.trials())

    # Seldom with one of them twice.
    def shuts(self, trials):
        shuts = self.some_of(trials, 0, 3)
        return shuts if self.up_to(12) else shuts + shuts[:1]

    def fitting(self, house):
        kind = self.chance.choices([kind for kind, often in KINDS], [often for kind, often in KINDS])[0]
        layers = [name for name, slope in house.layers()]
        trials = house.trials()
        if not layers or (kind == "layer" and len(layers) < 5):
            slope = self.one_of((0, self.prime, self.up_to(self.prime)))
            return ("layer", self.one_of([word for word in WORDS if word not in layers]), slope)
        if kind in ("layer", "trial") or not trials:
            free = [word for word in WORDS if word not in trials] or WORDS
            arms = self.some_of(WORDS, 1, 4) if self.up_to(20) else ("a", "a")
            rule = self.rule() if self.up_to(20) else ("not",)
            return ("trial", self.one_of(free), self.name(layers), arms, rule, self.shuts(trials))
        if kind == "visit":
            return ("visit", self.one_of(GUESTS), self.marks())
        if kind == "hold":
            return ("hold", self.name(layers), self.number() // 2)
        trial = self.trial(house)
        many = len(arms_told(house).get(trial, "a"))
        if kind == "share":
            return ("share", trial, tuple(self.number() for _ in range(many)))
        if kind == "deal":
            return ("deal", trial, self.number(), tuple(self.one_of((1, 2, 3, 7, BIG)) for _ in range(many)))
        if kind == "bar":
            found = [guest for guest, arm in house.who(trial)] if trial in trials else []
            return ("bar", self.one_of(found if found and self.up_to(1) else GUESTS), trial)
        return (kind, trial)

    # One in six is spoilt, by a thing in the place of another, or by one more or less.
    def deed(self, house):
        deed = self.fitting(house)
        if self.up_to(5):
            return deed
        spoilt = list(deed)
        place = self.chance.randrange(min(1, self.up_to(9)), len(deed))
        thing = self.one_of(ODD + WORDS + GUESTS + (0, 1, self.prime, self.prime + 1, BIG, ()))
        way = self.up_to(5)
        if way == 0:
            spoilt.append(thing)
        elif way == 1:
            spoilt.pop()
        else:
            spoilt[place] = thing
        return spoilt if way == 2 else tuple(spoilt)


    # A question's row, mostly of what stands, sometimes with a word too many or a sign left out.
    def question(self, house, kinds):
        kind = self.one_of(kinds)
        arms = arms_told(house)
        words = [kind]
        trial = "a"
        for thing in ASKED[kind]:
            if thing == "trial":
                trial = self.name(house.trials())
            words.append({
                "layer": self.name([name for name, slope in house.layers()]), "guest": self.one_of(GUESTS),
                "place": str(self.up_to(self.prime)), "trial": trial, "arm": self.name(arms.get(trial)),
                "marks": plain_marks(self.marks()), "rule": plain_rule(self.rule()),
            }[thing])
        row = " ".join(words)
        if self.up_to(11):
            return row
        place = self.up_to(len(row) - 1)
        return self.one_of((row + " a", row + " ", row[:place] + row[place + 1:], row + "\n", row.upper()))


# The row that writes just this deed; or one that writes none, made of a deed that is none; or None.
def row_for(deed):
    try:
        row = plain_row(deed)
    except (TypeError, ValueError):
        return None
    read = plain_read(row)
    if len(row) > 4000 or len(row.split(" ")) > 200 or (read is not None and repr(read) != repr(deed)):
        return None
    return row


# The points with a place, by slope and place, as the bits of a number.
def point_bits(prime):
    bits = {(slope, place): 0 for slope in range(prime + 1) for place in range(prime)}
    for x in range(prime):
        for y in range(prime):
            bit = 1 << (x * prime + y)
            for slope in range(prime):
                bits[(slope, (x + slope * y) % prime)] |= bit
            bits[(prime, y)] |= bit
    return bits


# The points that lie in each arm, as bits.
def arms_bits(house, bits):
    found = {}
    for trial, arms in arms_told(house).items():
        slope = dict(house.layers())[house.layer_of(trial)]
        for arm in arms:
            found[(trial, arm)] = 0
            for place in house.places(trial, arm):
                found[(trial, arm)] |= bits[(slope, place)]
    return found


# Who is in which trial and arm: (guest, trial, arm).
def inside(house):
    return {(guest, trial, arm) for trial in house.trials() for guest, arm in house.who(trial)}


class Promise(unittest.TestCase):
    # The first part, by what the house itself answers and by the numbers told last.
    def check_places(self, house, last):
        arms = arms_told(house)
        owners = {}
        for trial in house.trials():
            layer = house.layer_of(trial)
            self.assertEqual(house.shares(trial), last[trial])
            for arm, number in zip(arms[trial], last[trial]):
                places = house.places(trial, arm)
                self.assertEqual(len(places), number)
                for place in places:
                    self.assertNotIn((layer, place), owners)
                    owners[(layer, place)] = (trial, arm)
        for layer, slope in house.layers():
            for place in range(house.prime()):
                owner = house.owner(layer, place)
                self.assertEqual(None if owner == ("", "") else owner, owners.get((layer, place)))
        for guest in GUESTS:
            stood = house.stand(guest)
            self.assertEqual(len({layer for layer, trial, arm in stood}), len(stood))
            for layer, trial, arm in stood:
                self.assertEqual(house.layer_of(trial), layer)
                self.assertIn((guest, arm), house.who(trial))
                place = place_by(house.prime(), house.salt(), dict(house.layers())[layer], guest)
                self.assertEqual(house.place(layer, guest), place)
                self.assertEqual(owners[(layer, place)], (trial, arm))
        everyone = {guest for guest, trial, arm in inside(house)}.union(GUESTS)
        self.assertEqual(sum(len(house.stand(guest)) for guest in everyone), len(inside(house)))

    # The second part: who is in it no longer, and why.
    def check_out(self, deed, before, after, last, shares, arms):
        for guest, trial, arm in before - after:
            place = arms[trial].index(arm)
            fell = deed[0] in ("share", "deal") and deed[1] == trial and shares[trial][place] < last[trial][place]
            self.assertTrue(fell or deed in (("close", trial), ("bar", guest, trial)), (deed, guest, trial, arm))

    # The third part: who came in, and what let them in. A visit goes by the layers, so
    # what the guest came into in a layer ahead counts.
    def check_in(self, deed, before, after, ever, house, facts):
        if after <= before:
            return
        self.assertEqual(deed[0], "visit")
        self.assertEqual({guest for guest, trial, arm in after - before}, {deed[1]})
        been = {trial for trial, arm in ever}
        came = []
        for layer, trial, arm in house.stand(deed[1]):
            if (deed[1], trial, arm) not in before:
                self.assertNotIn(trial, facts["paused"])
                self.assertNotIn(trial, facts["closed"])
                self.assertNotIn((deed[1], trial), facts["barred"])
                told = facts["trials"][trial]
                self.assertTrue(holds(told[4], dict(deed[2])))
                self.assertFalse(been.intersection(told[5]))
                came.append((trial, arm))
                been.add(trial)
        self.assertEqual(house.ever(deed[1]), ever + came)

    # What the deeds that were not refused told, read from them alone.
    def note(self, facts, deed, shares):
        if deed[0] == "trial":
            facts["trials"][deed[1]] = deed
            facts["last"][deed[1]] = (0,) * len(deed[3])
        elif deed[0] == "share":
            facts["last"][deed[1]] = deed[2]
        elif deed[0] == "deal":
            self.assertEqual(sum(shares[deed[1]]), deed[2])
            facts["last"][deed[1]] = shares[deed[1]]
        elif deed[0] == "close":
            facts["closed"].add(deed[1])
            facts["last"][deed[1]] = (0,) * len(facts["trials"][deed[1]][3])
        elif deed[0] == "pause":
            facts["paused"].add(deed[1])
        elif deed[0] == "go":
            facts["paused"].discard(deed[1])
        elif deed[0] == "bar":
            facts["barred"].add((deed[1], deed[2]))

    def told(self, house, deed):
        handed = repr(deed)
        try:
            answer = house.do(deed)
        except SplitError as error:
            answer = type(error)
        self.assertEqual(repr(deed), handed)
        return answer

    # One deed to the house and to the plain one, with the promise behind it.
    def check_deed(self, house, plain, deed, facts, stood):
        before = inside(house)
        guest = deed[1] if type(deed) is tuple and deed[:1] == ("visit",) and len(deed) == 3 else None
        ever = house.ever(guest) if guest in GUESTS else []
        answer = self.told(house, deed)
        self.assertEqual(answer, plain.do(deed), deed)
        now = everything(house, GUESTS, MARKS)
        if type(answer) is not list:
            self.assertEqual(now, stood, deed)
            return answer, now
        after = inside(house)
        last = dict(facts["last"])
        shares = {trial: house.shares(trial) for trial in house.trials()}
        self.note(facts, deed, shares)
        self.check_out(deed, before, after, last, shares, arms_told(house))
        self.check_in(deed, before, after, ever, house, facts)
        self.check_places(house, facts["last"])
        self.assertEqual(now, everything(plain, GUESTS, MARKS), deed)
        return answer, now

    # The fourth part, of all arms and of some pairs of them; of all pairs where none are told.
    def check_counts(self, house, bits, chance=None):
        arms = arms_bits(house, bits)
        for (trial, arm), lie in arms.items():
            self.assertEqual(points_in(house, trial, arm), lie.bit_count())
            self.assertEqual(lie.bit_count(), len(house.places(trial, arm)) * house.prime())
        pairs = [(first, second) for first in arms for second in arms]
        for first, second in pairs if chance is None else chance.sample(pairs, min(8, len(pairs))):
            both = (arms[first] & arms[second]).bit_count()
            self.assertEqual(points_in_both(house, *first, *second), both, (first, second))
            if house.layer_of(first[0]) != house.layer_of(second[0]):
                self.assertEqual(both, len(house.places(*first)) * len(house.places(*second)))
            elif first != second:
                self.assertEqual(both, 0)

    def said(self, desk, row):
        try:
            return desk.say(row)
        except SplitError as error:
            return type(error)

    # The deed once more, told to the desk by its row.
    def check_told(self, desk, deed, answer):
        row = row_for(deed)
        if row is None:
            return None
        if plain_read(row) is None:
            answer = NoRow
            self.assertRaises(NoRow, read_deed, row)
        else:
            self.assertEqual(deed_text(deed), row)
            self.assertEqual(repr(read_deed(row)), repr(deed))
        self.assertEqual(self.said(desk, row), plain_tuples(answer, "ok") if type(answer) is list else answer, row)
        return row

    # A row of drawn deeds, with all questions asked behind each of them.
    def check_row(self, number, prime, salt, many=LONGEST):
        drawer = Drawer(number, prime)
        asker = Drawer(500 + number, prime)
        house = House(prime, salt)
        plain = PlainHouse(prime, salt)
        desk = Desk(prime, salt)
        # In a great house the points are too many to be counted behind each deed.
        bits = point_bits(prime) if prime < 200 else None
        kinds = [kind for kind in ASKED if bits or kind not in ("points", "meet")]
        facts = {"trials": {}, "last": {}, "paused": set(), "closed": set(), "barred": set()}
        deeds = []
        answers = []
        rows = []
        stood = everything(house, GUESTS, MARKS)
        snapshots = [stood]
        for _ in range(many):
            deed = drawer.deed(plain)
            deeds.append(deed)
            answer, now = self.check_deed(house, plain, deed, facts, stood)
            rows.append((self.check_told(desk, deed, answer), answer))
            for _ in range(4):
                row = asker.question(plain, kinds)
                self.assertEqual(self.said(desk, row), plain_say(plain, row), row)
            if type(answer) is list:
                stood = now
                answers.append(answer)
                snapshots.append(now)
                if bits:
                    self.check_counts(house, bits, asker.chance)
        if bits:
            self.check_counts(house, bits)
        self.assertEqual(house.book(), plain.book())
        self.check_book(house, deeds, answers, snapshots)
        self.check_texts(house, desk, answers, snapshots, rows)
        return house

    # The text of the house, read anew, and told row by row to another desk.
    def check_texts(self, house, desk, answers, snapshots, told):
        text = house_text(house)
        self.assertEqual(text, plain_text(house))
        self.assertEqual(desk.say("text"), text)
        self.assertLess(len(text), 40000)
        rows = text.split("\n")
        self.assertEqual(len(rows), len(answers) + 1)
        for many in [*range(1, len(rows), 29), len(rows)]:
            read = read_house("\n".join(rows[:many]))
            self.assertEqual(everything(read, GUESTS, MARKS), snapshots[many - 1])
            self.assertEqual(house_text(read), "\n".join(rows[:many]))
        other = Desk(house.prime(), house.salt())
        for row, answer in zip(rows[1:], answers):
            self.assertEqual(other.say(row), plain_tuples(answer, "ok"))
        self.assertEqual(other.say("text"), text)
        # With a row that is no row, or a refused deed's, behind those ahead that were not refused.
        told = [(row, answer) for row, answer in told if row is not None and "\n" not in row]
        refused = [number for number, (row, answer) in enumerate(told) if type(answer) is not list]
        for number in refused[:3] + refused[-3:]:
            ahead = [row for row, answer in told[:number] if type(answer) is list]
            with self.assertRaises(BadRow) as caught:
                read_house("\n".join([rows[0]] + ahead + [row for row, answer in told[number:]]))
            self.assertEqual(caught.exception.row, len(ahead) + 2)

    # The last part: of the book the same house comes again, deed by deed.
    def check_book(self, house, deeds, answers, snapshots):
        book = house.book()
        again = House(house.prime(), house.salt())
        for k, deed in enumerate(book):
            self.assertEqual(again.do(deed), answers[k])
            self.assertEqual(everything(again, GUESTS, MARKS), snapshots[k + 1])
        self.assertEqual(everything(again, GUESTS, MARKS), everything(house, GUESTS, MARKS))
        made = house_of(house.prime(), house.salt(), book)
        self.assertEqual(everything(made, GUESTS, MARKS), everything(house, GUESTS, MARKS))
        self.assertIsNone(first_refused(house.prime(), house.salt(), book))
        agreed = [deed == told for deed, told in zip(deeds, book)]
        number = agreed.index(False) if False in agreed else len(book)
        self.assertEqual(first_refused(house.prime(), house.salt(), deeds), number if number < len(deeds) else None)

    def test_small_primes(self):
        for number in range(18):
            prime = (2, 3, 5, 7, 11, 13)[number % 6]
            self.check_row(number, prime, (0, 1, 12345678901, BIG)[number % 4])

    def test_greater_primes(self):
        for number, prime in ((100, 31), (101, 53), (102, 101)):
            self.check_row(number, prime, 7 ** number % BIG)

    def test_greatest_prime(self):
        self.check_row(200, 997, BIG - 1)

    # The rows hold what the promise speaks of: else the tests above would tell little.
    def test_what_is_drawn(self):
        seen = Counter()
        for number in range(18):
            house = PlainHouse((2, 3, 5, 7, 11, 13)[number % 6], (0, 1, 12345678901, BIG)[number % 4])
            drawer = Drawer(number, house.prime())
            asker = Drawer(500 + number, house.prime())
            for _ in range(LONGEST):
                deed = drawer.deed(house)
                answer = house.do(deed)
                seen[answer.__name__ if type(answer) is type else deed[0] + (" with" if answer else " without")] += 1
                row = row_for(deed)
                if row is not None:
                    seen["no row" if plain_read(row) is None else "refused row" if type(answer) is type else "row"] += 1
                question = asker.question(house, list(ASKED))
                answer = plain_say(house, question)
                seen["asked " + answer.__name__ if type(answer) is type else question.split(" ")[0]] += 1
        for key in (
            "NoDeed", "NoWord", "Taken", "Unknown", "NoArms", "NoRule", "NoShuts", "NoNumber", "NoMarks", "Closed",
            "NoRoom", "layer without", "trial without", "share without", "share with", "deal without", "deal with",
            "hold without", "pause without", "go without", "close without", "close with", "bar without", "bar with",
            "visit without", "visit with", "row", "refused row", "no row", "asked NoRow", "asked Unknown",
            "asked NoNumber", *ASKED,
        ):
            self.assertGreater(seen[key], 5, key)


if __name__ == "__main__":
    unittest.main()
