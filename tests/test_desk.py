import unittest

from plain_house import (
    BIG, ODD, RULE_TEXTS, HouseChecks, PlainHouse, arms_told, plain_marks, plain_read, plain_row, plain_say,
    plain_tuples, told,
)

from layersplit.desk import Desk
from layersplit.errors import Closed, NoHouse, NoNumber, NoRoom, NoRow, SplitError, Taken, Unknown
from layersplit.house import House
from layersplit.reading import read_house
from layersplit.rules import example
from layersplit.writing import house_text

# Rows that are told to a desk of the prime 7 and the salt 0, with the answers: a guest
# named by one letter has the places told in plain_house.py.
TOLD = (
    ("layer up 0", "ok"),
    ("layer down 7", "ok"),
    ("trial soap up old,new - any", "ok"),
    ("trial rope down one,two soap has age", "ok"),
    ("trial lamp up x - any", "ok"),
    ("visit a -", "ok"),
    ("share soap 1,2", "ok"),
    ("visit a -", "up/soap/old"),
    ("visit b age=1", "up/soap/old"),
    ("visit g -", "up/soap/new"),
    ("visit n age=3,size=-3", "up/soap/new"),
    ("visit u -", "ok"),
    ("deal rope 5 2,1", "ok"),
    ("visit u age=0", "down/rope/one"),
    ("pause rope", "ok"),
    ("go rope", "ok"),
    ("hold up 2", "ok"),
    ("bar never soap", "ok"),
    ("bar b soap", "b/soap/old"),
    ("bar b soap", "ok"),
    ("share soap 0,1", "a/soap/old n/soap/new"),
    ("share lamp 1", "ok"),
    ("visit a age=7", "up/lamp/x"),
    ("visit n -", "ok"),
    ("close soap", "g/soap/new"),
    ("visit v age=0", "down/rope/one"),
    ("hold up 0", "ok"),
)

# Questions of the desk that was told all of these, with the answers.
ASKED = (
    ("place up a", "0"), ("place up g", "1"), ("place down a", "1"), ("place down never", "1"), ("place up u", "3"),
    ("owner up 0", "lamp/x"), ("owner up 1", "free"), ("owner down 0", "rope/one"), ("owner down 4", "rope/two"),
    ("owner up 6", "free"), ("places soap old", "-"), ("places lamp x", "0"), ("places rope one", "0,1,2,3"),
    ("places rope two", "4"), ("shares soap", "0,0"), ("shares lamp", "1"), ("shares rope", "4,1"),
    ("stand a", "up/lamp/x"), ("stand b", "-"), ("stand u", "down/rope/one"), ("stand never", "-"), ("stand 0", "-"),
    ("ever a", "soap/old lamp/x"), ("ever b", "soap/old"), ("ever u", "rope/one"), ("ever never", "-"),
    ("would a -", "up/lamp/x"), ("would c -", "up/lamp/x"), ("would c age=1", "up/lamp/x down/rope/one"),
    ("would d age=1", "up/lamp/x down/rope/two"), ("would u -", "down/rope/one"), ("would g age=1", "-"),
    ("would o age=-5,size=7", "down/rope/one"), ("would o -", "-"), ("who soap", "-"), ("who lamp", "a/x"),
    ("who rope", "u/one v/one"), ("points soap old", "0"), ("points lamp x", "7"), ("points rope one", "28"),
    ("points rope two", "7"), ("meet lamp x rope one", "4"), ("meet rope two lamp x", "1"),
    ("meet rope one rope two", "0"), ("meet rope one rope one", "28"), ("meet soap old rope one", "0"),
    ("meet lamp x soap old", "0"), ("example any", "-"), ("example not any", "none"), ("example has age", "age=0"),
    ("example least age 18", "age=18"), ("example not least age 18", "-"),
    ("example both has age not least age 18", "age=17"), ("example both least size -3 least age 2", "age=2,size=-3"),
    ("example both has a not has a", "none"), ("example both least c 1 both least b -1 has a", "a=0,b=-1,c=1"),
    ("example has none", "none=0"), ("example least a -1" + "0" * 30, "a=-1" + "0" * 30),
)

# Rows that are neither a deed nor a question.
NO_ROWS = (
    "", " ", "\n", "-", "ok", "held", "free", "none", "any", "soap", "house 7 0", "questions", "layers", "trials",
    "book", "prime", "salt", "layer", "layers up", "layer_of soap", "do pause soap", "Text", "text ", " text", "text\n",
    "text text", "text 7", "texts", "place", "place up", "place a", "place up a b", "place  up a", "place up  a",
    "place up a ", " place up a", "place Up a", "place up A", "place up,down a", "place up -", "place - a", "place 7 a",
    "place up a\n", "place up\na", "place abcdefghijklm a", "place up abcdefghijklmnopqrstuvwxy", "place up a=1",
    "owner", "owner up", "owner 0", "owner up a", "owner up -1", "owner up -0", "owner up 00", "owner up 01",
    "owner up +1", "owner up 1,2", "owner up 0 0", "owner up -", "owner up ", "owner 0 up", "owner Up 0",
    "owner up 1" + "0" * 60, "owner abcdefghijklm 0", "owner up 0\n", "places", "places soap", "places soap old new",
    "places soap,rope old", "places soap -", "places - old", "places soap Old", "places soap 7", "places 7 old",
    "places soap abcdefghijklm", "places  soap old", "places soap old ", "shares", "shares ", "shares 7", "shares -",
    "shares soap rope", "shares soap,rope", "shares Soap", "shares abcdefghijklm", "stand", "stand ", "stand -",
    "stand A", "stand a b", "stand a,b", "stand a-b", "stand abcdefghijklmnopqrstuvwxy", "stand a ", "ever", "ever ",
    "ever -", "ever A", "ever a b", "ever abcdefghijklmnopqrstuvwxy", "ever a\n", "would", "would a", "would -",
    "would a ", "would a any", "would a age", "would a age=", "would a age=01", "would a age=-0", "would a age=1,age=1",
    "would a age=1 size=2", "would a age=1,", "would A -", "would a - -", "would abcdefghijklmnopqrstuvwxy -",
    "would a a=" + str(BIG + 1), "would a a=1,b=1,c=1,d=1,e=1,f=1,g=1,h=1,i=1", "would  -", "who", "who ", "who a7",
    "who 7", "who soap rope", "who soap ", "who Soap", "who -", "who abcdefghijklm", "points", "points soap",
    "points soap old new", "points soap 7", "points 7 old", "points soap -", "points  soap old", "points soap old ",
    "points abcdefghijklm old", "meet", "meet soap", "meet soap old", "meet soap old rope",
    "meet soap old rope one two", "meet soap old rope 7", "meet soap old 7 one", "meet soap 7 rope one",
    "meet 7 old rope one", "meet soap old  rope one", "meet soap old rope one ", "meet soap,old rope,one",
    "meet soap/old rope/one", "meet soap old rope abcdefghijklm", "meet soap old Rope one", "example", "example ",
    "example any any", "example all", "example has", "example least age", "example least age 018", "example  any",
    "example any ", "example not not not not not not any", "example both both has a has b both has c has d",
    "example -", "example least age " + str(BIG + 1), "example Any", "pause", "go", "close", "bar a", "visit a",
    "hold up", "share soap", "deal soap 5", "layer up", "trial soap up old any", "~" * 4000, "who " * 199 + "soap",
    "a b" * 1000,
)

# What is refused as the house refuses it, by a desk that was told all of TOLD.
REFUSED = (
    ("layer up 3", Taken), ("layer mid 7", Taken), ("layer mid 8", NoNumber), ("layer mid " + "9" * 60, NoNumber),
    ("trial soap up x - any", Taken), ("trial late mid x - any", Unknown), ("trial late up x late any", Unknown),
    ("trial late up x soap,mid any", Unknown), ("share late 1", Unknown), ("share lamp 1,1", NoNumber),
    ("share rope 1", NoNumber), ("share soap 0,0", Closed), ("share lamp 8", NoRoom),
    ("share lamp " + "9" * 60, NoRoom), ("deal late 1 1", Unknown), ("deal rope 1 1", NoNumber),
    ("deal soap 1 1,1", Closed), ("deal lamp 1000 5", NoRoom), ("hold mid 1", Unknown), ("hold up 7", NoRoom),
    ("hold down 3", NoRoom), ("pause late", Unknown), ("pause soap", Closed), ("go late", Unknown), ("go soap", Closed),
    ("close late", Unknown), ("close soap", Closed), ("bar a late", Unknown), ("place mid a", Unknown),
    ("place soap a", Unknown), ("owner mid 0", Unknown), ("owner soap 0", Unknown), ("owner up 7", NoNumber),
    ("owner down 7", NoNumber), ("owner up " + "9" * 60, NoNumber), ("owner mid 7", Unknown),
    ("places late old", Unknown), ("places up old", Unknown), ("places soap one", Unknown),
    ("places soap soap", Unknown), ("places old soap", Unknown), ("shares late", Unknown), ("shares up", Unknown),
    ("who late", Unknown), ("who up", Unknown), ("points late old", Unknown), ("points soap one", Unknown),
    ("points up old", Unknown), ("meet late old soap old", Unknown), ("meet soap one soap old", Unknown),
    ("meet soap old late old", Unknown), ("meet soap old soap one", Unknown), ("meet late late late late", Unknown),
    ("meet soap old rope old", Unknown),
)


def said(*rows, prime=7, salt=0):
    desk = Desk(prime, salt)
    for row in rows:
        desk.say(row)
    return desk


class DeskChecks(HouseChecks):
    # All that a desk can be asked of what stands, by its rows.
    def all_asked(self, desk):
        house = read_house(desk.say("text"))
        rows = ["text"] + [f"place {layer} {guest}" for layer, slope in house.layers() for guest in self.guests]
        rows += [f"owner {layer} {place}" for layer, slope in house.layers() for place in range(house.prime())]
        arms = [(trial, arm) for trial, names in arms_told(house).items() for arm in names]
        rows += [f"{ask} {trial} {arm}" for trial, arm in arms for ask in ("places", "points")]
        rows += [f"meet {trial} {arm} {other} {there}" for trial, arm in arms for other, there in arms]
        rows += [f"{ask} {trial}" for trial in house.trials() for ask in ("shares", "who")]
        rows += [f"{ask} {guest}" for guest in self.guests for ask in ("stand", "ever")]
        rows += [f"would {guest} {plain_marks(marks)}" for guest in self.guests for marks in self.some_marks]
        return [(row, desk.say(row)) for row in rows]

    def check_say(self, desk, row, answer):
        given = desk.say(row)
        self.assertIs(type(given), str)
        self.assertEqual(given, answer, row)

    def check_said(self, desk, row, refusal):
        with self.assertRaises(SplitError) as caught:
            desk.say(row)
        self.assertIs(type(caught.exception), refusal, row)


class Deeds(DeskChecks):
    def test_answers(self):
        desk = Desk(7, 0)
        for row, answer in TOLD:
            self.check_say(desk, row, answer)
        self.check_say(desk, "text", "\n".join(["house 7 0"] + [row for row, answer in TOLD]))

    def test_against_the_plain_one(self):
        for prime, salt in ((2, 0), (7, 0), (7, 99), (11, BIG)):
            desk = Desk(prime, salt)
            plain = PlainHouse(prime, salt)
            for row, by_hand in TOLD:
                answer = plain_say(plain, row)
                if type(answer) is str:
                    self.check_say(desk, row, answer)
                else:
                    self.check_said(desk, row, answer)
            for row, answer in self.all_asked(desk):
                self.assertEqual(answer, plain_say(plain, row), row)

    # Each of the document's own rows, told one behind another.
    def test_the_rows_of_the_document(self):
        desk = said("layer upper 3", "trial mild upper a - any", "trial rough upper a - any")
        for row in ("trial soap upper old,new mild,rough least age 18", "share soap 3,4"):
            self.check_say(desk, row, "ok")
        self.check_said(desk, "deal soap 10 1,2", NoRoom)
        self.check_said(desk, "hold upper 2", NoRoom)
        self.check_say(desk, "share soap 2,3", "ok")
        for row in ("hold upper 2", "pause soap", "go soap", "bar ann7 soap"):
            self.check_say(desk, row, "ok")
        for row in ("visit ann7 age=20,size=-3", "visit ann7 -"):
            self.check_say(desk, row, "ok")
        self.check_said(desk, "trial soap upper old,new - any", Taken)
        self.check_say(desk, "close soap", "ok")
        self.check_say(desk, "text", "\n".join((
            "house 7 0", "layer upper 3", "trial mild upper a - any", "trial rough upper a - any",
            "trial soap upper old,new mild,rough least age 18", "share soap 3,4", "share soap 2,3", "hold upper 2",
            "pause soap", "go soap", "bar ann7 soap", "visit ann7 age=20,size=-3", "visit ann7 -", "close soap",
        )))

    # An answer of several tuples, in the order of layers for a visit and sorted for a share.
    def test_several_tuples(self):
        desk = said(
            "layer b 0", "layer a 7", "layer c 1", "trial z b x - any", "trial y a x - any", "trial w c x - any",
            "share z 7", "share y 7", "share w 7",
        )
        self.check_say(desk, "visit bob -", "b/z/x a/y/x c/w/x")
        self.check_say(desk, "visit ann7 -", "b/z/x a/y/x c/w/x")
        self.check_say(desk, "visit 0 -", "b/z/x a/y/x c/w/x")
        self.check_say(desk, "who z", "0/x ann7/x bob/x")
        self.check_say(desk, "ever bob", "z/x y/x w/x")
        self.check_say(desk, "stand bob", "b/z/x a/y/x c/w/x")
        self.check_say(desk, "would cid -", "b/z/x a/y/x c/w/x")
        self.check_say(desk, "bar bob y", "bob/y/x")
        self.check_say(desk, "share w 0", "0/w/x ann7/w/x bob/w/x")
        self.check_say(desk, "close z", "0/z/x ann7/z/x bob/z/x")
        self.check_say(desk, "deal y 0 1", "0/y/x ann7/y/x")
        self.check_say(desk, "stand bob", "-")


class Questions(DeskChecks):
    def test_answers(self):
        desk = said(*[row for row, answer in TOLD])
        plain = PlainHouse(7, 0)
        for row, answer in TOLD:
            plain.do(plain_read(row))
        for row, answer in ASKED:
            self.assertEqual(plain_say(plain, row), answer, row)
            self.check_say(desk, row, answer)

    def test_held(self):
        desk = said("layer up 3", "hold up 2", "trial soap up old - any", "share soap 2", "hold up 3")
        owners = [desk.say(f"owner up {place}") for place in range(7)]
        self.assertEqual(owners, ["held", "held", "soap/old", "soap/old", "held", "free", "free"])

    # Questions of a desk that was told nothing.
    def test_without_deeds(self):
        desk = Desk(7, 5)
        for row, answer in (
            ("text", "house 7 5"), ("stand a", "-"), ("ever a", "-"), ("would a -", "-"), ("would a b=1", "-"),
            ("example any", "-"), ("example not any", "none"),
        ):
            self.check_say(desk, row, answer)
        for row in ("place up a", "owner up 0", "places a b", "shares a", "who a", "points a b", "meet a b a b"):
            self.check_said(desk, row, Unknown)
        self.check_say(desk, "text", "house 7 5")

    # A question changes nothing, neither for later questions nor for the text.
    def test_changes_nothing(self):
        desk = said(*[row for row, answer in TOLD])
        before = self.all_asked(desk)
        for row, answer in ASKED:
            desk.say(row)
        self.assertEqual(self.all_asked(desk), before)

    def test_examples(self):
        desk = Desk(7, 0)
        for rule, text in RULE_TEXTS:
            marks = example(rule)
            self.check_say(desk, "example " + text, "none" if marks is None else plain_marks(marks))

    # Names that are words of rows themselves.
    def test_names_like_rows(self):
        desk = said("layer text 0", "trial example text any,not - any", "share example 7,0", "visit place -")
        for row, answer in (
            ("who example", "place/any"), ("stand place", "text/example/any"), ("ever place", "example/any"),
            ("owner text 6", "example/any"), ("places example not", "-"), ("points example any", "49"),
            ("meet example any example any", "49"), ("meet example any example not", "0"), ("shares example", "7,0"),
            ("place text owner", str(told(("layer", "a", 0)).place("a", "owner"))),
            ("example has any", "any=0"),
        ):
            self.check_say(desk, row, answer)


class Refused(DeskChecks):
    def test_no_rows(self):
        desk = said(*[row for row, answer in TOLD])
        before = self.all_asked(desk)
        plain = PlainHouse(7, 0)
        for row in NO_ROWS:
            self.assertIs(plain_say(plain, row), NoRow, row)
            self.check_said(desk, row, NoRow)
            self.check_said(Desk(7, 0), row, NoRow)
        self.assertEqual(self.all_asked(desk), before)

    def test_as_the_house_refuses(self):
        desk = said(*[row for row, answer in TOLD])
        before = self.all_asked(desk)
        for row, refusal in REFUSED:
            self.check_said(desk, row, refusal)
            self.assertEqual(desk.say("text"), before[0][1], row)
        self.assertEqual(self.all_asked(desk), before)

    # A row that is no row is refused with NoRow also where the house would refuse it, too.
    def test_no_row_goes_first(self):
        desk = said("layer up 0")
        for row in (
            "place mid A", "owner mid -1", "places late 7", "points late 7", "meet late old late 7", "share late -1",
            "deal late 1001 1", "bar a late late", "trial late mid a,a - any", "trial up mid a - not", "layer up 01",
        ):
            self.check_said(desk, row, NoRow)
        self.check_say(desk, "text", "house 7 0\nlayer up 0")

    # With refused rows between all of them the answers are the same.
    def test_refused_ones_among_them(self):
        desk = Desk(7, 0)
        refused = ("", "layer down 0 ", "visit A -", "hold nowhere 1", "share nowhere 1", "layer x 99", "who nobody")
        for row, answer in TOLD:
            for wrong in refused:
                with self.assertRaises(SplitError):
                    desk.say(wrong)
            self.check_say(desk, row, answer)
        self.check_say(desk, "text", "\n".join(["house 7 0"] + [row for row, answer in TOLD]))

    def test_no_house(self):
        for thing in ODD + (0, 1, 4, 998, 1009, -7, BIG, "7", (7,), [7], ()):
            self.check_asked(Desk, NoHouse, thing, 0)
        for thing in ODD + (BIG + 1, "0", (0,), [0], ()):
            self.check_asked(Desk, NoHouse, 7, thing)
        self.check_asked(Desk, NoHouse, 4, -1)


class Whole(DeskChecks):
    # A desk that is told the rows of a house's text answers as the house did.
    def test_rows_of_a_text(self):
        deeds = [plain_read(row) for row, answer in TOLD]
        house = House(7, 0)
        answers = [house.do(deed) for deed in deeds]
        rows = house_text(house).split("\n")
        desk = Desk(7, 0)
        for row, deed, answer in zip(rows[1:], deeds, answers):
            self.assertEqual(row, plain_row(deed))
            self.check_say(desk, row, plain_tuples(answer, "ok"))
        self.check_say(desk, "text", house_text(house))
        self.assertEqual(self.everything(read_house(desk.say("text"))), self.everything(house))

    def test_two_desks(self):
        first = said(*[row for row, answer in TOLD])
        second = Desk(7, 0)
        self.check_say(second, "text", "house 7 0")
        second.say("layer up 3")
        self.check_say(first, "place down a", "1")
        self.check_say(first, "text", "\n".join(["house 7 0"] + [row for row, answer in TOLD]))
        self.check_say(second, "text", "house 7 0\nlayer up 3")

    def test_by_names(self):
        desk = Desk(salt=5, prime=11)
        self.assertEqual(desk.say(row="text"), "house 11 5")
        self.assertEqual(desk.say(row="layer up 11"), "ok")
        with self.assertRaises(NoRow):
            desk.say(row="")
        self.assertEqual(Desk(prime=2, salt=BIG).say("text"), f"house 2 {BIG}")

    # The bounds of primes and salts.
    def test_houses(self):
        for prime, salt in ((2, 0), (997, BIG), (13, 1)):
            self.check_say(Desk(prime, salt), "text", f"house {prime} {salt}")

    # The salt and the prime count.
    def test_places_by_salt(self):
        for prime, salt in ((7, 0), (7, 1), (13, 1), (997, BIG)):
            house = told(("layer", "up", 1), prime=prime, salt=salt)
            desk = said("layer up 1", prime=prime, salt=salt)
            for guest in self.guests:
                self.check_say(desk, "place up " + guest, str(house.place("up", guest)))


if __name__ == "__main__":
    unittest.main()
