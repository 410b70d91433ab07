import copy
import itertools
import unittest

from layersplit.rules import are_marks, example, holds, is_rule

BIG = 10 ** 30
WORDS = ("a", "b", "c", "d", "e", "f", "g", "h", "i", "j")
ANY = ("any",)


def deep(many, wrap, inmost=()):
    thing = inmost
    for _ in range(many):
        thing = wrap(thing)
    return thing


def nots(many, inmost=ANY):
    return deep(many, lambda thing: ("not", thing), inmost)


# A rule of so many rules within one another, all of them twofold but the inmost.
def full(depth, leaf=ANY):
    return deep(depth - 1, lambda thing: ("both", thing, thing), leaf)


def altogether(rule):
    return 1 + sum(altogether(inner) for inner in rule[1:] if isinstance(inner, tuple))


# Things of all kinds, none of which is marks or a rule; some of them reach the
# bounds of any thing: thirty deep, five hundred parts.
NEITHER = (
    None, True, False, 0, 1, -1, BIG, -BIG, 10 ** 60 - 1, "", "a", "any", "has", "not any", "\n", "~",
    [], [()], [[]], ["any"], ["has", "a"], [("a", 1)], (None,), (True,), (0,), ("",), ("a",), ("ab",), ("a", 1),
    ("Any",), ("any ",), ("all",), ("always",), ("Has", "a"), ("or", ANY, ANY), ("and", ANY, ANY), ("most", "a", 1),
    (("any",),), (("any",), ("any",)), ([],), ([[]], []), (["any"],), ([], "a"), (("not",), ANY), (None, ANY),
    ("not", ("not", ("not", None))), ("both", ANY, ("either", ANY, 7)),
    deep(29, lambda thing: [thing]), deep(29, lambda thing: (thing,)), deep(29, lambda thing: ("not", thing)),
    nots(29), deep(29, lambda thing: ["not", thing], ANY), deep(29, lambda thing: ("both", ANY, thing), ANY),
    ("any",) * 499, (ANY,) * 249, (("a", 1),) * 166, ["a"] * 499, [("a", 1)] * 166, tuple(range(499)),
    ("both",) + (ANY,) * 249, ("not", (ANY,) * 248), ("has", "a" * 4000), ("least", "a", 10 ** 60 - 1),
)


class Answers(unittest.TestCase):
    def check(self, function, thing, answer):
        before = copy.deepcopy(thing)
        told = function(thing)
        self.assertIs(told, answer, (function.__name__, thing))
        self.assertIs(function(thing=thing), answer)
        self.assertEqual(repr(thing), repr(before))

    def check_all(self, function, things, answer):
        for thing in things:
            self.check(function, thing, answer)


class AreMarks(Answers):
    def test_marks(self):
        self.check_all(are_marks, (
            (), (("a", 0),), (("age", 20), ("size", -3)), (("size", -3), ("age", 20)), (("b", 1), ("a", 1)),
            (("abcdefghijkl", 1),), (("any", 1), ("has", 2), ("not", 3)),
        ), True)

    def test_other_things(self):
        self.check_all(are_marks, NEITHER, False)
        self.check_all(are_marks, (ANY, ("has", "a"), ("least", "a", 1), ("not", ANY), full(3)), False)

    def test_how_many(self):
        for many in range(11):
            marks = tuple((word, 1) for word in WORDS[:many])
            self.check(are_marks, marks, many <= 8)

    def test_a_word_twice(self):
        self.check(are_marks, (("a", 1), ("a", 1)), False)
        self.check(are_marks, (("a", 1), ("a", 2)), False)
        self.check(are_marks, (("a", 1), ("b", 1), ("a", 3)), False)
        for first in range(8):
            for second in range(first + 1, 8):
                marks = [(word, 5) for word in WORDS[:8]]
                marks[second] = (WORDS[first], 6)
                self.check(are_marks, tuple(marks), False)

    def test_numbers(self):
        for number in (0, 1, -1, BIG - 1, BIG, 1 - BIG, -BIG):
            self.check(are_marks, (("a", number),), True)
            self.check(are_marks, (("b", 0), ("a", number)), True)
        for number in (BIG + 1, -BIG - 1, 10 * BIG, 10 ** 60 - 1, True, False, None, "1", "", (1,), [1], ()):
            self.check(are_marks, (("a", number),), False)
            self.check(are_marks, (("b", 0), ("a", number)), False)
            self.check(are_marks, (("a", number), ("b", 0)), False)

    def test_words(self):
        for word in ("", "A", "a1", "a b", "a\n", "abcdefghijklm", 1, None, True, ("a",), ["a"], ()):
            self.check(are_marks, ((word, 1),), False)
            self.check(are_marks, (("b", 0), (word, 1)), False)

    def test_lists_in_place_of_tuples(self):
        self.check_all(are_marks, (
            [], [("a", 1)], (["a", 1],), [["a", 1]], (("a", 1), ["b", 1]), (["a", 1], ("b", 1)), ["a", 1],
        ), False)

    def test_too_short_and_too_long(self):
        self.check_all(are_marks, (
            ((),), (("a",),), (("a", 1, 1),), (("a", 1, "b"),), (("a", 1, None),), ("a", 1), (("b", 1), ("a",)),
            (("b", 1), ()), ((1, "a"),), ("a1",), (("a", "b"),), ((("a", 1),),),
        ), False)


class IsRule(Answers):
    def test_each_kind(self):
        self.check_all(is_rule, (
            ANY, ("has", "a"), ("has", "abcdefghijkl"), ("has", "any"), ("least", "a", 0), ("least", "least", -7),
            ("not", ANY), ("not", ("has", "a")), ("both", ANY, ANY), ("both", ("has", "a"), ("least", "a", 3)),
            ("either", ANY, ANY), ("either", ("not", ANY), ("both", ("has", "b"), ANY)),
        ), True)

    def test_other_things(self):
        self.check_all(is_rule, NEITHER, False)
        self.check_all(is_rule, ((), (("a", 1),), (("a", 1), ("b", 2))), False)

    # Each of them where a rule is to stand, too.
    def test_other_things_within(self):
        for thing in NEITHER:
            self.check_all(is_rule, (
                ("not", thing), ("both", thing, ANY), ("both", ANY, thing),
                ("either", thing, ANY), ("either", ANY, thing),
                ("not", ("either", ("has", "a"), ("both", ANY, thing))),
            ), False)

    def test_too_short_and_too_long(self):
        whole = (
            ANY, ("has", "a"), ("least", "a", 1), ("not", ANY), ("both", ANY, ANY), ("either", ANY, ANY),
        )
        for rule in whole:
            self.check(is_rule, rule, True)
            for long in range(len(rule)):
                self.check(is_rule, rule[:long], False)
            for more in ("a", 1, None, ANY, (), "any"):
                self.check(is_rule, rule + (more,), False)
                self.check(is_rule, (more,) + rule, False)

    def test_lists_in_place_of_tuples(self):
        self.check_all(is_rule, (
            ["any"], ["has", "a"], ["least", "a", 1], ["not", ANY], ["both", ANY, ANY], ["either", ANY, ANY],
            ("not", ["any"]), ("both", ["any"], ANY), ("both", ANY, ["any"]), ("either", ["any"], ANY),
            ("either", ANY, ["any"]), ("has", ["a"]), ("least", ["a"], 1), ("least", "a", [1]),
        ), False)

    def test_words_that_are_none(self):
        for word in ("", "A", "a1", "a b", "a\n", "abcdefghijklm", 1, 0, None, True, ("a",), ["a"], (), ANY):
            self.check(is_rule, ("has", word), False)
            self.check(is_rule, ("least", word, 1), False)
            self.check(is_rule, ("not", ("has", word)), False)

    def test_numbers(self):
        for number in (0, 1, -1, BIG - 1, BIG, 1 - BIG, -BIG):
            self.check(is_rule, ("least", "a", number), True)
            self.check(is_rule, ("both", ANY, ("least", "a", number)), True)
        for number in (BIG + 1, -BIG - 1, 10 * BIG, 10 ** 60 - 1, True, False, None, "1", "", (1,), [1], "a", ANY):
            self.check(is_rule, ("least", "a", number), False)
            self.check(is_rule, ("both", ANY, ("least", "a", number)), False)

    def test_how_many_within_one_another(self):
        for many in range(1, 29):
            for inmost in (ANY, ("has", "a"), ("least", "a", 1)):
                self.check(is_rule, nots(many - 1, inmost), many <= 6)
        for many in range(1, 10):
            for kind in ("both", "either"):
                left = deep(many - 1, lambda thing: (kind, thing, ANY), ANY)
                right = deep(many - 1, lambda thing: (kind, ANY, thing), ANY)
                self.check(is_rule, left, many <= 6)
                self.check(is_rule, right, many <= 6)
        self.check(is_rule, ("both", nots(4), nots(4)), True)
        self.check(is_rule, ("both", nots(4), nots(5)), False)
        self.check(is_rule, ("either", nots(5), nots(4)), False)

    # With each way of reaching thirty, one more around it or within it.
    def test_how_many_altogether(self):
        fourteen = ("either", full(3), ("both", ("not", ANY), ("both", ANY, ANY)))
        self.assertEqual([altogether(rule) for rule in (full(4), full(5), fourteen)], [15, 31, 14])
        self.check_thirty((("both", full(4), fourteen), ("either", fourteen, full(4))), True)
        self.check_thirty((("not", ("both", fourteen, fourteen)),), True)
        self.check_thirty((("both", full(4), full(4)), ("not", ("either", full(4), fourteen)), full(5)), False)
        self.check_thirty((("not", ("both", fourteen, full(4))),), False)
        self.check(is_rule, full(6), False)

    def check_thirty(self, rules, answer):
        for rule in rules:
            self.assertEqual(altogether(rule), 30 if answer else 31)
            self.check(is_rule, rule, answer)

    def test_how_many_words(self):
        leaves = [("has", word) for word in WORDS[:4]]
        leasts = [("least", word, 1) for word in WORDS[:4]]
        for some in (leaves, leasts, leaves[:2] + leasts[2:], leasts[:1] + leaves[1:]):
            self.check(is_rule, ("both", some[0], ("either", some[1], some[2])), True)
            self.check(is_rule, ("both", ("not", some[0]), ("either", ("both", some[1], some[0]), some[2])), True)
            self.check(is_rule, ("both", ("both", some[0], some[3]), ("either", some[1], some[2])), False)
            self.check(is_rule, ("both", some[0], ("either", some[1], ("both", some[3], ("not", some[2])))), False)

    # A word that comes often, by has and by least, is one word; and the texts
    # by which a rule begins are no words of it.
    def test_a_word_often(self):
        either = ("either", ("least", "a", 2), ("not", ("has", "a")))
        often = ("both", ("both", ("has", "a"), ("least", "a", 1)), either)
        self.check(is_rule, often, True)
        self.check(is_rule, ("both", often, ("either", ("has", "b"), ("least", "c", 1))), True)
        self.check(is_rule, ("both", often, ("either", ("has", "b"), ("both", ("has", "d"), ("least", "c", 1)))), False)


# Point 11 told once more, of marks as a dict.
def plainly_holds(rule, marks):
    kind, things = rule[0], rule[1:]
    kept = dict(marks)
    return {
        "any": lambda: True,
        "has": lambda: things[0] in kept,
        "least": lambda: things[0] in kept and kept[things[0]] >= things[1],
        "not": lambda: plainly_holds(things[0], marks) is False,
        "both": lambda: [plainly_holds(q, marks) for q in things] == [True, True],
        "either": lambda: [plainly_holds(q, marks) for q in things] != [False, False],
    }[kind]()


LEAVES = (
    ANY, ("has", "a"), ("has", "b"), ("least", "a", -1), ("least", "a", 0), ("least", "a", 2), ("least", "b", 1),
)


def twofold(rules, others):
    return [(kind, q, r) for kind in ("both", "either") for q in rules for r in others]


def rules_of_two():
    return list(LEAVES) + [("not", leaf) for leaf in LEAVES] + twofold(LEAVES, LEAVES)


def many_rules():
    two = rules_of_two()
    some = twofold(two, two)[::17] + [("not", rule) for rule in two]
    third = [("both", rule, ("not", ("has", "c"))) for rule in some[::9]]
    fourth = [("not", ("either", ("least", "c", 3), ("not", rule))) for rule in some[::11]]
    return two + some + third + fourth


class Holds(unittest.TestCase):
    def check(self, rule, marks, answer):
        before = repr((rule, marks))
        self.assertIs(holds(rule, marks), answer, (rule, marks))
        self.assertIs(holds(rule=rule, marks=marks), answer)
        self.assertEqual(repr((rule, marks)), before)

    def test_any(self):
        for marks in ((), (("a", 1),), (("a", -BIG), ("b", BIG))):
            self.check(ANY, marks, True)
            self.check(("not", ANY), marks, False)

    def test_has(self):
        for number in (0, 1, -1, BIG, -BIG):
            self.check(("has", "a"), (("a", number),), True)
            self.check(("has", "a"), (("b", 1), ("a", number)), True)
            self.check(("has", "a"), (("a", number), ("b", 1)), True)
            self.check(("has", "a"), (("b", number),), False)
            self.check(("has", "a"), (("aa", number),), False)
            self.check(("has", "aa"), (("a", number),), False)
        self.check(("has", "a"), (), False)

    def test_least(self):
        for n in (0, 1, -1, 18, -18, BIG - 1, 1 - BIG):
            for number in (n - 1, n, n + 1):
                self.check(("least", "age", n), (("age", number),), number >= n)
                self.check(("least", "age", n), (("size", n + 1), ("age", number)), number >= n)
                self.check(("least", "age", n), (("size", n), ("age", number), ("x", n)), number >= n)
                self.check(("least", "age", n), (("size", number),), False)
            self.check(("least", "age", n), (), False)

    def test_least_at_the_bounds(self):
        self.check(("least", "a", BIG), (("a", BIG),), True)
        self.check(("least", "a", BIG), (("a", BIG - 1),), False)
        self.check(("least", "a", -BIG), (("a", -BIG),), True)
        self.check(("least", "a", -BIG), (), False)
        self.check(("least", "a", 1 - BIG), (("a", -BIG),), False)

    def test_not_both_and_either(self):
        rules = {True: ("has", "a"), False: ("has", "b")}
        marks = (("a", 0),)
        for first in (True, False):
            self.check(("not", rules[first]), marks, not first)
            for second in (True, False):
                self.check(("both", rules[first], rules[second]), marks, first and second)
                self.check(("either", rules[first], rules[second]), marks, first or second)

    def test_eight_marks(self):
        marks = tuple((word, k) for k, word in enumerate(WORDS[:8]))
        for k, word in enumerate(WORDS[:8]):
            self.check(("has", word), marks, True)
            self.check(("least", word, k), marks, True)
            self.check(("least", word, k + 1), marks, False)

    def test_six_within_one_another(self):
        self.check(nots(5), (), False)
        self.check(nots(4), (), True)
        self.check(nots(5, ("has", "a")), (), True)
        self.check(nots(5, ("has", "a")), (("a", 0),), False)

    def test_many_rules(self):
        numbers = (None, -2, -1, 0, 1, 2, 3)
        all_marks = []
        for first, second in itertools.product(numbers, numbers):
            pairs = (("b", second), ("a", first))
            all_marks.append(tuple(pair for pair in pairs if pair[1] is not None))
        for rule in many_rules():
            for marks in all_marks:
                self.assertIs(holds(rule, marks), plainly_holds(rule, marks), (rule, marks))


def collect(rule):
    if rule[0] in ("has", "least"):
        return [rule]
    return [leaf for inner in rule[1:] for leaf in collect(inner)]


# All marks of point 12 listed, then sorted by its order: what is not there
# stands ahead of every number.
def listed(rule):
    leaves = collect(rule)
    words = sorted({leaf[1] for leaf in leaves})
    choices = []
    for word in words:
        told = {leaf[2] for leaf in leaves if leaf[0] == "least" and leaf[1] == word}
        if told:
            told |= {min(told) - 1} - {-BIG - 1}
        choices.append([(0, 0)] + [(1, number) for number in (told or {0})])
    rows = sorted(itertools.product(*choices))
    return [tuple((word, number) for word, (there, number) in zip(words, row) if there) for row in rows]


def plain_example(rule):
    for marks in listed(rule):
        if plainly_holds(rule, marks):
            return marks
    return None


class Example(unittest.TestCase):
    def check(self, rule, answer):
        before = repr(rule)
        for told in (example(rule), example(rule=rule)):
            self.assertEqual(told, answer, rule)
            self.assertEqual(plain_example(rule), answer, rule)
            self.assertIs(type(told), type(answer))
        self.assertEqual(repr(rule), before)

    def test_for_nothing(self):
        self.check(("not", ANY), None)
        self.check(("both", ("has", "a"), ("not", ("has", "a"))), None)
        self.check(("both", ("least", "a", 3), ("not", ("has", "a"))), None)
        self.check(("both", ("least", "a", 3), ("not", ("least", "a", 2))), None)

    def test_for_the_empty_marks(self):
        self.check(ANY, ())
        self.check(("not", ("has", "a")), ())
        self.check(("not", ("least", "a", 3)), ())
        self.check(("either", ("has", "a"), ANY), ())

    def test_a_word_without_a_least(self):
        self.check(("has", "a"), (("a", 0),))
        self.check(("both", ("has", "b"), ("has", "a")), (("a", 0), ("b", 0)))
        self.check(("both", ("has", "b"), ("least", "a", 7)), (("a", 7), ("b", 0)))

    def test_a_word_with_a_least(self):
        self.check(("least", "a", 18), (("a", 18),))
        self.check(("least", "a", -18), (("a", -18),))
        self.check(("both", ("has", "a"), ("not", ("least", "a", 18))), (("a", 17),))
        self.check(("both", ("has", "a"), ("either", ("least", "a", 5), ANY)), (("a", 4),))
        self.check(("both", ("least", "a", 3), ("least", "a", 9)), (("a", 9),))
        self.check(("either", ("least", "a", 9), ("least", "a", 3)), (("a", 3),))
        self.check(("both", ("least", "a", 3), ("not", ("least", "a", 9))), (("a", 3),))
        # One less is told of the least n alone.
        self.check(("both", ("least", "a", 9), ("not", ("least", "a", 3))), None)

    # Without the word first, at the first word that is unlike.
    def test_the_order(self):
        self.check(("either", ("has", "a"), ("has", "b")), (("b", 0),))
        self.check(("either", ("has", "b"), ("has", "a")), (("b", 0),))
        self.check(("either", ("least", "a", 1), ("least", "b", 10)), (("b", 10),))
        self.check(("either", ("has", "zz"), ("has", "b")), (("zz", 0),))
        self.check(("both", ("has", "z"), ("either", ("has", "ab"), ("has", "b"))), (("b", 0), ("z", 0)))
        self.check(("either", ("both", ("has", "a"), ("not", ("least", "a", 5))), ("least", "a", 9)), (("a", 4),))
        # The least number that does, not the one with the fewest figures.
        self.check(("either", ("least", "a", 10), ("least", "a", 9)), (("a", 9),))
        self.check(("either", ("least", "a", -9), ("least", "a", -10)), (("a", -10),))

    def test_several_words(self):
        rule = ("both", ("has", "size"), ("both", ("least", "age", 18), ("not", ("has", "cat"))))
        self.check(rule, (("age", 18), ("size", 0)))
        rule = ("both", ("least", "c", 3), ("both", ("least", "b", 2), ("least", "a", 1)))
        self.check(rule, (("a", 1), ("b", 2), ("c", 3)))
        rule = ("both", ("least", "ab", 3), ("both", ("has", "b"), ("least", "aa", 1)))
        self.check(rule, (("aa", 1), ("ab", 3), ("b", 0)))

    def test_at_the_bounds(self):
        below = ("both", ("has", "a"), ("not", ("least", "a", -BIG)))
        self.check(below, None)
        self.check(("least", "a", -BIG), (("a", -BIG),))
        self.check(("both", ("has", "a"), ("either", ("least", "a", -BIG), ANY)), (("a", -BIG),))
        self.check(("both", ("has", "a"), ("not", ("least", "a", 1 - BIG))), (("a", -BIG),))
        self.check(("both", ("least", "a", -BIG), ("not", ("least", "a", 4))), (("a", -BIG),))
        self.check(("least", "a", BIG), (("a", BIG),))
        self.check(("both", ("has", "a"), ("not", ("least", "a", BIG))), (("a", BIG - 1),))
        # Both words reach the bound, or one of the two alone.
        rule = ("both", ("has", "b"), ("both", ("least", "a", -BIG), ("not", ("least", "b", -5))))
        self.check(rule, (("a", -BIG), ("b", -6)))
        self.check(("either", below, ("both", ("has", "b"), ("not", ("least", "b", -BIG)))), None)

    def test_against_the_plain_listing(self):
        for rule in many_rules():
            told = example(rule)
            self.assertEqual(told, plain_example(rule), rule)
            if told is not None:
                self.assertIs(are_marks(told), True)
                self.assertIs(holds(rule, told), True)

    # Rules that are as large as point 11 lets them be, with all three words.
    def test_large_rules(self):
        for seed in range(40):
            leaves = []
            number = seed + 1
            for _ in range(15):
                number = (number * 1103 + 7919) % 1000003
                word = ("x", "yy", "abc")[number % 3]
                least = ("least", word, number // 3 % 9 - 4)
                leaves.append(least if number // 27 % 5 else ("has", word))
            parts = leaves
            turn = seed
            while len(parts) > 1:
                pairs = [parts[k:k + 2] for k in range(0, len(parts), 2)]
                parts = []
                for pair in pairs:
                    turn = (turn * 7 + 3) % 11
                    parts.append((("both", "either")[turn % 2],) + tuple(pair) if len(pair) == 2 else pair[0])
            for rule in (parts[0], ("not", parts[0])):
                self.assertIs(is_rule(rule), True)
                self.assertEqual(example(rule), plain_example(rule), rule)


if __name__ == "__main__":
    unittest.main()
