import random
import unittest

from plain_house import (
    ANY, BIG, DEED_ROWS, RULE_TEXTS, HouseChecks, plain_read, plain_read_rule, plain_rule, wrapped,
)

from layersplit.errors import NoRow
from layersplit.reading import read_deed, read_rule
from layersplit.writing import deed_text, rule_text

# The rows and rules below are drawn from this seed, each with its own number behind it.
SEED = 20261116
OVER = str(BIG + 1)
SIXTY = "9" * 60
ROWS = tuple(row for deed, row in DEED_ROWS)
SIGNS = "abcdefghijklmnopqrstuvwxyz0123456789 ,=-\n" + "ABCZ_+./~!%\"'"

# Rows that are spoilt in one thing, by the deed that they all but write.
WRONG = {
    "layer": (
        "layer upper", "layer", "layer upper 3 3", "layer upper 3 any", "layer 3", "layer upper three",
        "layer upper -1", "layer upper -", "layer upper 3,4", "layer upper a", "layer 3 upper", "layer Upper 3",
        "layer up_per 3", "layer upper7 3", "layer abcdefghijklm 3", "layer  3", "layer upper ", "layer - 3",
        "layer a,b 3", "layers a 3", "layer upper 03", "layer upper +3", "layer upper 00", "layer upper -0",
        "layer upper 1" + "0" * 60, "layer upper 0" + SIXTY, "layer upper 3.0", "layer upper 3_0", "layer upper 0x3",
        "layer upper 1e3", "layer upper --3", "layer upper 3-", "layer upper - 3", "layer upper =3", "layer\tupper 3",
        "layer,upper,3",
    ),
    "trial": (
        "trial", "trial soap", "trial soap upper", "trial soap upper old", "trial soap upper old -",
        "trial soap upper old any", "trial soap upper old - ", "trial soap upper - - any", "trial soap upper  - any",
        "trial soap upper old  any", "trial soap upper old, - any", "trial soap upper ,old - any",
        "trial soap upper old,,new - any", "trial soap upper old,old - any", "trial soap upper a,b,a - any",
        "trial soap upper a,b,c,d,e - any", "trial soap upper Old - any", "trial soap upper old7 - any",
        "trial soap upper abcdefghijklm - any", "trial soap upper old,- - any", "trial soap upper old, new - any",
        "trial soap upper (old) - any", "trial abcdefghijklm upper old - any", "trial soap abcdefghijklm old - any",
        "trial - upper old - any", "trial soap - old - any", "trial 7 upper old - any", "trial soap 7 old - any",
        "trial  upper old - any", "trial soap  old - any", "trial Soap upper old - any", "trial soap uPper old - any",
        "trial soap upper old a,b,c,d,e,f,g,h,i any", "trial soap upper old a,a any",
        "trial soap upper old a,b,c,b any", "trial soap upper old a, any", "trial soap upper old ,a any",
        "trial soap upper old a,,b any", "trial soap upper old abcdefghijklm any", "trial soap upper old A any",
        "trial soap upper old 7 any", "trial soap upper old -,a any", "trial soap upper old a,- any",
        "trial soap upper old -- any", "trial soap upper old - any any", "trial soap upper old - any -",
        "trial soap upper old any -", "trial soap upper old least age 18 -", "trial soap upper old - - any",
        "trial soap upper old - all", "trial soap upper old - has", "trial soap upper old - least age",
        "trial soap upper old - both any", "trial soap upper old - not", "trial soap upper old - any ",
        "trial soap upper old - ANY", "trial soap upper old - least age 018",
        "trial soap upper old - least age " + OVER, "trial soap upper old - both has a both has b both has c has d",
        "trial soap upper old - not not not not not not any", "share soap upper old - any",
    ),
    "share": (
        "share", "share soap", "share soap ", "share 3", "share soap -", "share soap 3,", "share soap ,3",
        "share soap 3,,4", "share soap 3, 4", "share soap 3 4", "share soap 1,2,3,4,5", "share soap -1",
        "share soap 3,-4", "share soap 3,-", "share soap 03", "share soap 3,04", "share soap +3", "share soap -0",
        "share soap 0,-0", "share soap 00", "share soap 1" + "0" * 60, "share soap 0,1" + "0" * 60, "share soap a",
        "share soap 3,a", "share soap 3;4", "share Soap 3", "share abcdefghijklm 3", "share 7 3", "share - 3",
        "share  3", "share soap (3,4)", "share soap 3.4", "share soap,rope 3", "share soap 3=4",
    ),
    "deal": (
        "deal", "deal soap", "deal soap 10", "deal soap 1,2", "deal soap 10 ", "deal soap  1,2", "deal soap 10 1,2 3",
        "deal soap 10 -", "deal soap - 1,2", "deal soap 1001 1,2", "deal soap 10000 1,2", "deal soap -1 1,2",
        "deal soap -0 1,2", "deal soap 010 1,2", "deal soap +10 1,2", "deal soap ten 1,2", "deal soap 10,1 2",
        "deal soap 10 0", "deal soap 10 1,0", "deal soap 10 0,1", "deal soap 10 -1", "deal soap 10 " + OVER,
        "deal soap 10 1," + OVER, "deal soap 10 " + SIXTY, "deal soap 10 1" + "0" * 60, "deal soap 10 01",
        "deal soap 10 +1", "deal soap 10 1,2,3,4,5", "deal soap 10 1,", "deal soap 10 ,1", "deal soap 10 1,,2",
        "deal soap 10 a", "deal Soap 10 1,2", "deal abcdefghijklm 10 1,2", "deal 10 soap 1,2", "deal - 10 1,2",
        "deal soap " + SIXTY + " 1", "deal  10 1,2",
    ),
    "hold": (
        "hold", "hold upper", "hold upper ", "hold 2", "hold upper -1", "hold upper -0", "hold upper 02",
        "hold upper +2", "hold upper 1" + "0" * 60, "hold upper -", "hold upper 2,3", "hold upper two",
        "hold upper 2 2", "hold Upper 2", "hold abcdefghijklm 2", "hold - 2", "hold  2", "hold 2 upper",
        "holds upper 2",
    ),
    "bar": (
        "bar", "bar ann7", "bar soap", "bar ann7 ", "bar  soap", "bar ann7 soap soap", "bar ann7 7", "bar Ann7 soap",
        "bar ann-7 soap", "bar - soap", "bar ann7 -", "bar ann,bob soap", "bar ann7 soap,rope",
        "bar ann7 abcdefghijklm", "bar abcdefghijklmnopqrstuvwxy soap", "bar ann7 Soap", "bar ann_7 soap",
    ),
    "visit": (
        "visit", "visit ann7", "visit ann7 ", "visit -", "visit  -", "visit ann7 - -", "visit ann7 --",
        "visit ann7 age", "visit ann7 age=", "visit ann7 =20", "visit ann7 =", "visit ann7 age=20,",
        "visit ann7 ,age=20", "visit ann7 age=20,,size=3", "visit ann7 age=20, size=3", "visit ann7 age=20 size=3",
        "visit ann7 age=20,age=21", "visit ann7 age=20,age=20", "visit ann7 a=1,b=2,a=3", "visit ann7 age=020",
        "visit ann7 age=+20", "visit ann7 age=-0", "visit ann7 age=00", "visit ann7 age=--1", "visit ann7 age==20",
        "visit ann7 age=20=20", "visit ann7 age = 20", "visit ann7 age=" + OVER, "visit ann7 age=-" + OVER,
        "visit ann7 age=1" + "0" * 60, "visit ann7 age=a", "visit ann7 20=age", "visit ann7 Age=20",
        "visit ann7 abcdefghijklm=1", "visit ann7 a7=1", "visit ann7 -=1", "visit ann7 -,a=1", "visit ann7 a=1,-",
        "visit ann7 a=-", "visit ann7 a=1,b", "visit ann7 a=1,b=1,c=1,d=1,e=1,f=1,g=1,h=1,i=1", "visit Ann7 -",
        "visit ann.7 -", "visit - -", "visit abcdefghijklmnopqrstuvwxy -", "visit ann7 a=1;b=2", "visit ann7 (a=1)",
        "visit ann7 any",
    ),
    "pause": (
        "pause", "pause ", "pause  ", "pause soap rope", "pause soap,rope", "pause 7", "pause -", "pause Soap",
        "pause abcdefghijklm", "pausesoap", "pause ann7", "Pause soap", "pauses soap",
    ),
    "go": (
        "go", "go ", "go soap soap", "go 7", "go -", "go Soap", "go abcdefghijklm", "Go soap", "goes soap", "gosoap",
    ),
    "close": (
        "close", "close ", "close soap soap", "close 7", "close -", "close Soap", "close abcdefghijklm", "closed soap",
        "CLOSE soap", "close soap 0",
    ),
    "none": (
        "", " ", "\n", "-", "any", "soap", "house 7 0", "deed soap", "place upper ann7", "owner upper 0", "text", "ok",
        "shares soap", "stand ann7", "example any", "layer upper 3\nlayer lower 4", "('pause', 'soap')", "7",
        "~" * 4000, "go " * 199 + "soap", "a" * 4000,
    ),
}

# Texts that write no rule.
WRONG_RULES = (
    "", " ", "any ", " any", "any any", "Any", "ANY", "all", "an", "anyy", "any\n", "\nany", "any,any", "(any)", "-",
    "18", "has", "has ", "has  age", "has age ", " has age", "has age age", "has Age", "has age7", "has abcdefghijklm",
    "has 18", "has -", "has age,size", "has age\n", "hasage", "age has", "has has age", "least", "least age",
    "least age ", "least 18", "least 18 age", "least  age 18", "least age  18", "least age 18 ", "least age 18 19",
    "least age a", "least age 018", "least age +18", "least age -0", "least age 00", "least age -018", "least age --1",
    "least age -", "least age 1.5", "least age 1_0", "least age " + OVER, "least age -" + OVER, "least age " + SIXTY,
    "least age 1" + "0" * 60, "least age -1" + "0" * 60, "least Age 18", "least abcdefghijklm 18", "least age=18",
    "least age 18\n", "most age 18", "not", "not ", "not  any", "not any any", "not not", "not has", "not age",
    "any not", "NOT any", "both", "both any", "both any ", "both any  any", "both any any any", "both any and any",
    "any both any", "both both any any", "both has a has", "both has a b", "both, any any", "either", "either any",
    "either any any any", "either any or any", "any or any", "either both any any", "either not any", "both not any",
    "neither any any", "not (any)", "both (any) (any)",
)


def drawn(number):
    return random.Random(SEED * 1000 + number)


class Reading(HouseChecks):
    def check_read(self, deed, row):
        read = read_deed(row)
        self.assertEqual(read, deed, row)
        self.assertEqual(repr(read), repr(deed))
        self.assertEqual(deed_text(read), row)

    def check_no_row(self, row):
        self.assertIsNone(plain_read(row), row)
        self.check_asked(read_deed, NoRow, row)

    def check_rule(self, rule, text):
        read = read_rule(text)
        self.assertEqual(repr(read), repr(rule))
        self.assertEqual(rule_text(read), text)

    def check_no_rule(self, text):
        self.assertIsNone(plain_read_rule(text), text)
        self.check_asked(read_rule, NoRow, text)
        self.check_no_row("trial a b c - " + text)


class Rules(Reading):
    def test_by_hand(self):
        for rule, text in RULE_TEXTS:
            self.check_rule(rule, text)
            self.check_read(("trial", "a", "b", ("c",), rule, ("d", "e")), "trial a b c d,e " + text)

    def test_words_like_kinds(self):
        for word in ("any", "has", "least", "not", "both", "either"):
            for other in ("any", "has", "least", "not", "both", "either"):
                self.check_rule(("both", ("has", word), ("least", other, 0)), f"both has {word} least {other} 0")

    def test_numbers_at_the_bounds(self):
        for number in (0, 1, -1, 9, 10, -10, BIG, -BIG, BIG - 1, 1 - BIG):
            self.check_rule(("least", "age", number), f"least age {number}")
            self.check_rule(("not", ("least", "age", number)), f"not least age {number}")

    def test_depth(self):
        for many in range(6):
            rule = wrapped(many, lambda inner: ("not", inner), ("has", "a"))
            self.check_rule(rule, "not " * many + "has a")
        for many in (6, 7, 30, 198):
            self.check_no_rule("not " * many + "any")
        for kind in ("both", "either"):
            for many in range(5):
                rule = wrapped(many, lambda inner: ("not", inner), ANY)
                self.check_rule((kind, rule, ANY), kind + " not" * many + " any any")
                self.check_rule((kind, ANY, rule), kind + " any" + " not" * many + " any")
            self.check_no_rule(kind + " not" * 5 + " any any")
            self.check_no_rule(kind + " any" + " not" * 5 + " any")
        self.check_no_rule("both " * 100 + "any" + " any" * 98)
        self.check_no_rule("either " * 6 + "any" + " any" * 6)
        self.check_rule(wrapped(5, lambda inner: ("either", inner, ANY), ANY), "either " * 5 + "any" + " any" * 5)

    # Thirty parts, and thirty-one, none of them too deep.
    def test_parts(self):
        fifteen = wrapped(3, lambda inner: ("both", inner, inner), ANY)
        fourteen = ("both", fifteen[1], ("both", fifteen[2][1], ("not", ANY)))
        for first, second, many in (
            (fifteen, fourteen, 30), (fourteen, fifteen, 30), (fifteen, fifteen, 31), (fourteen, fourteen, 29),
        ):
            rule = ("either", first, second)
            text = plain_rule(rule)
            self.assertEqual(len(text.split()), many)
            if many > 30:
                self.check_no_rule(text)
            else:
                self.check_rule(rule, text)
        self.check_no_rule(plain_rule(wrapped(5, lambda inner: ("either", inner, inner), ("has", "a"))))

    def test_words(self):
        self.check_rule(
            ("both", ("has", "a"), ("both", ("has", "b"), ("least", "c", 1))), "both has a both has b least c 1",
        )
        self.check_rule(
            ("both", ("both", ("has", "a"), ("has", "b")), ("both", ("has", "c"), ("least", "a", 1))),
            "both both has a has b both has c least a 1",
        )
        self.check_no_rule("both both has a has b both has c has d")
        self.check_no_rule("both both has a has b both has c least d 1")

    def test_wrong(self):
        for text in WRONG_RULES:
            self.check_no_rule(text)

    # Cut behind each sign, and going on by each word: no rule, but where the plain reckoning reads one.
    def test_cut_and_going_on(self):
        for rule, text in RULE_TEXTS:
            for many in range(len(text)):
                self.check_as_plain(text[:many])
            for more in ("any", "has", "has a", "0", "-", "", "age"):
                self.check_no_rule(text + " " + more)
                self.check_as_plain(more + " " + text)

    def check_as_plain(self, text):
        rule = plain_read_rule(text)
        if rule is None:
            self.check_no_rule(text)
        else:
            self.check_rule(rule, text)
        return rule is not None

    # Drawn words of a rule one after another, most of which write none.
    def test_drawn_words(self):
        chance = drawn(1)
        words = ("any", "any", "has", "has", "least", "not", "both", "either", "a", "b", "age", "0", "-7", "18", "-0")
        read = 0
        for _ in range(4000):
            read += self.check_as_plain(" ".join(chance.choices(words, k=chance.randrange(1, 9))))
        self.assertGreater(read, 100)


class Deeds(Reading):
    def test_by_hand(self):
        for deed, row in DEED_ROWS:
            self.check_read(deed, row)
            self.assertEqual(plain_read(row), deed)

    def test_wrong(self):
        for rows in WRONG.values():
            for row in rows:
                self.check_no_row(row)

    # In each row: a blank doubled, ahead, behind; a line feed behind, ahead and between; capitals.
    def test_blanks_and_line_feeds(self):
        for row in ROWS:
            for spoilt in (
                " " + row, row + " ", row + "\n", "\n" + row, row + "\n" + row, row.upper(), row.capitalize(),
                row.replace(" ", "  "), row.replace(" ", "\n"), row.replace(" ", "\t"), row.replace(" ", ""),
                row.replace(" ", ","), row.replace(" ", "  ", 1), row + " any", row + " -", row + ",", row + "=",
                "-" + row, row + " \n", row + "\n ",
            ):
                self.check_no_row(spoilt)

    def test_lengths_of_names(self):
        word = "abcdefghijkl"
        guest = "abcdefghijklmnopqrstuvwx"
        for row in (
            "layer WORD 3", "hold WORD 3", "pause WORD", "go WORD", "close WORD", "share WORD 1", "deal WORD 1 1",
            "trial WORD a b - any", "trial a WORD b - any", "trial a b WORD - any", "trial a b x,WORD - any",
            "trial a b c WORD any", "trial a b c x,WORD any", "trial a b c - has WORD", "trial a b c - least WORD 1",
            "bar GUEST a", "bar a WORD", "visit GUEST -", "visit GUEST WORD=1", "visit a x=1,WORD=1",
        ):
            for its, other in ((word, guest), ("a", "0")):
                fitting = row.replace("WORD", its).replace("GUEST", other)
                self.assertEqual(deed_text(read_deed(fitting)), fitting)
            if "WORD" in row:
                for its in ("", word + "m", "A", "a7", "7", "a-b", "--", "a_b", "a,", ".", "~"):
                    self.check_no_row(row.replace("WORD", its).replace("GUEST", "g"))
            if "GUEST" in row:
                for its in ("", guest + "y", guest + "0", "A", "a-b", "-", "a_b", "a,b", "~"):
                    self.check_no_row(row.replace("GUEST", its).replace("WORD", "w"))

    def test_numbers(self):
        for number in (0, 1, 9, 10, 99, 997, BIG, 10 ** 59, int(SIXTY)):
            self.check_read(("layer", "a", number), f"layer a {number}")
            self.check_read(("hold", "a", number), f"hold a {number}")
            for numbers in ((number,), (0, number), (number, 5, 5, number)):
                self.check_read(("share", "a", numbers), "share a " + ",".join(str(one) for one in numbers))
        for total in (0, 1, 999, 1000):
            for weights in ((1,), (1, 1), (BIG, 1, BIG), (7, BIG - 1, 2, 1)):
                written = ",".join(str(weight) for weight in weights)
                self.check_read(("deal", "a", total, weights), f"deal a {total} {written}")
        for number in (0, 1, -1, 10, -10, BIG, -BIG):
            self.check_read(("visit", "a", (("b", number),)), f"visit a b={number}")
            self.check_read(("trial", "a", "a", ("a",), ("least", "a", number), ()), f"trial a a a - least a {number}")

    # What is written otherwise than a number is, wherever one may stand.
    def test_wrong_numbers(self):
        texts = (
            "", "-", "-0", "00", "01", "007", "+0", "+1", "-01", "--1", "- 1", "1-", "1 ", " 1", "1.0", "1,", ",1",
            "1_0", "0x1", "1e3", "one", "a", "1a", "a1", "1/2", "(1)", "'1'", "1\n", "\n1", "1" + "0" * 60, "0" + SIXTY,
            SIXTY + "0", "-1" + "0" * 60, "True", "None", "1=1", "~",
        )
        for row in (
            "layer a N", "hold a N", "share a N", "share a 1,N", "share a N,1", "deal a N 1", "deal a 1 N",
            "deal a 1 1,N", "deal a 1 N,1,1", "visit a b=N", "visit a c=1,b=N", "visit a b=N,c=1",
            "trial a a a - least a N", "trial a a a - both least a N any",
        ):
            for text in texts:
                self.check_no_row(row.replace("N", text))
            if "=" not in row and "least" not in row:
                for text in ("-1", "-7", "-" + str(BIG)):
                    self.check_no_row(row.replace("N", text))
            if "layer" not in row and "hold" not in row and "share" not in row:
                for text in (OVER, SIXTY, "-" + OVER, "-" + SIXTY):
                    self.check_no_row(row.replace("N", text))

    # How many there may be of arms, shuts, numbers, weights and marks, and that names are unlike.
    def test_how_many(self):
        words = "abcdefghijklmnop"
        for many in range(1, 12):
            names = ",".join(words[:many])
            ones = ",".join(["1"] * many)
            marks = ",".join(f"{word}=1" for word in words[:many])
            for row, most in (
                (f"trial t l {names} - any", 4), (f"trial t l a {names} any", 8), (f"share t {ones}", 4),
                (f"deal t 5 {ones}", 4), (f"visit g {marks}", 8),
            ):
                if many <= most:
                    self.assertEqual(deed_text(read_deed(row)), row)
                else:
                    self.check_no_row(row)
        for k in range(1, 8):
            names = words[:k] + words[k - 1]
            self.check_no_row(f"trial t l a {','.join(names)} any")
            self.check_no_row("visit g " + ",".join(f"{word}={n}" for n, word in enumerate(names)))
            self.check_no_row(f"trial t l {','.join(names)} - any")

    # Names may be alike of things that are not of one kind.
    def test_names_alike(self):
        for word in ("a", "any", "trial", "not", "house", "least"):
            self.check_read(("trial", word, word, (word,), ("has", word), (word,)),
                            f"trial {word} {word} {word} {word} has {word}")
            self.check_read(("bar", word, word), f"bar {word} {word}")
            self.check_read(("visit", word, ((word, 0),)), f"visit {word} {word}=0")

    # The forms alone are asked: slopes beyond any prime, trials that shut themselves, layers that stand nowhere.
    def test_forms_alone(self):
        self.check_read(("layer", "a", 998), "layer a 998")
        self.check_read(("hold", "nowhere", 10 ** 59), "hold nowhere 1" + "0" * 59)
        self.check_read(("trial", "a", "a", ("a",), ANY, ("a",)), "trial a a a a any")


class Drawn(Reading):
    def check_as_plain(self, row):
        deed = plain_read(row)
        if deed is None:
            self.check_no_row(row)
        else:
            self.check_read(deed, row)
        return deed is not None

    # Each row with each one of its signs left out, doubled, or another in its place.
    def test_one_sign(self):
        read = 0
        tried = 0
        for row in ROWS[:14] + ("deal a 1000 1,1", "visit g a=10", "trial a b c - not has a"):
            for k in range(len(row) + 1):
                for spoilt in [row[:k] + row[k + 1:]] + [row[:k] + sign + row[k:] for sign in SIGNS] + \
                        [row[:k] + sign + row[k + 1:] for sign in SIGNS]:
                    tried += 1
                    read += self.check_as_plain(spoilt)
        self.assertGreater(read, 1000)
        self.assertGreater(tried - read, 10000)

    # Words and parts of rows put together anew.
    def test_words_put_together(self):
        chance = drawn(2)
        words = sorted({word for row in ROWS for word in row.split(" ") if len(word) < 20})
        heads = sorted({row.split(" ")[0] for row in ROWS})
        read = 0
        for _ in range(6000):
            row = " ".join([chance.choice(heads)] + chance.choices(words, k=chance.randrange(0, 6)))
            read += self.check_as_plain(row)
        self.assertGreater(read, 200)

    # Two words changed about, one left out or doubled.
    def test_words_changed_about(self):
        chance = drawn(3)
        for _ in range(3000):
            words = chance.choice(ROWS).split(" ")
            first, second = chance.randrange(len(words)), chance.randrange(len(words))
            way = chance.randrange(3)
            if way == 0:
                words[first], words[second] = words[second], words[first]
            elif way == 1:
                words.pop(first)
            else:
                words.insert(first, words[second])
            self.check_as_plain(" ".join(words))


class Own(Reading):
    def test_by_names(self):
        self.assertEqual(read_rule(text="not any"), ("not", ANY))
        self.assertEqual(read_deed(text="hold upper 2"), ("hold", "upper", 2))
        with self.assertRaises(NoRow):
            read_rule(text="")
        with self.assertRaises(NoRow):
            read_deed(text="")

    # Read twice it is the same, also behind a refusal.
    def test_nothing_is_kept(self):
        for deed, row in DEED_ROWS:
            self.check_read(deed, row)
            self.check_no_row(row + " ")
            self.check_read(deed, row)

    # As many words and signs as a row may have.
    def test_longest_rows(self):
        self.check_no_rule(" ".join(["not"] * 195))
        self.check_no_rule(" ".join(["both"] * 195))
        self.check_no_rule(" ".join(["has"] * 195))
        self.check_no_row(" ".join(["trial"] * 200))
        self.check_no_row("visit ann7 " + "1" * 3989)
        self.check_no_row("hold upper " + "1" * 3989)
        self.check_no_row("hold upper -" + "1" * 3988)
        self.check_no_row("share soap " + ",".join(["1"] * 1994))
        self.check_no_row("visit ann7 " + ",".join(["a=1"] * 900))


if __name__ == "__main__":
    unittest.main()
