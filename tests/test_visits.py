import unittest

from plain_house import ANY, MARKS, HouseChecks, told

UP = ("layer", "up", 0)
DOWN = ("layer", "down", 7)
MID = ("layer", "mid", 1)


# A trial of one arm and of all places of its layer, which every guest may come into.
def full(name, layer, rule=ANY, shuts=()):
    return (("trial", name, layer, ("x",), rule, shuts), ("share", name, (7,)))


class Layers(HouseChecks):
    def test_no_layer(self):
        house = told()
        self.check_do(house, ("visit", "a", ()), [])
        self.check_do(house, ("visit", "a", MARKS[2]), [])
        self.assertEqual((house.stand("a"), house.ever("a")), ([], []))

    def test_no_trial(self):
        self.check_do(told(UP, DOWN), ("visit", "a", ()), [])

    def test_one_layer(self):
        house = told(UP, ("trial", "soap", "up", ("old", "new"), ANY, ()), ("share", "soap", (2, 1)))
        for guest, arm in (("a", "old"), ("f", "old"), ("m", "old"), ("n", "new"), ("t", "new")):
            self.check_do(house, ("visit", guest, ()), [("up", "soap", arm)])
            self.assertEqual(house.stand(guest), [("up", "soap", arm)])
            self.assertEqual(house.ever(guest), [("soap", arm)])
        self.check_do(house, ("visit", "u", ()), [])
        self.assertEqual(house.who("soap"), [("a", "old"), ("f", "old"), ("m", "old"), ("n", "new"), ("t", "new")])

    # In the order in which the layers were told, and not that of the trials.
    def test_several_layers(self):
        house = told(MID, UP, DOWN, *full("a", "down"), *full("b", "up"), *full("c", "mid"))
        answer = [("mid", "c", "x"), ("up", "b", "x"), ("down", "a", "x")]
        self.check_do(house, ("visit", "ann7", ()), answer)
        self.assertEqual(house.stand("ann7"), answer)
        self.assertEqual(house.ever("ann7"), [("c", "x"), ("b", "x"), ("a", "x")])

    def test_some_layers(self):
        house = told(UP, DOWN, MID, *full("a", "up"), *full("c", "mid"), ("trial", "b", "down", ("x", "y"), ANY, ()))
        house.do(("share", "b", (0, 2)))
        self.check_do(house, ("visit", "b", ()), [("up", "a", "x"), ("mid", "c", "x")])
        self.check_do(house, ("visit", "a", ()), [("up", "a", "x"), ("down", "b", "y"), ("mid", "c", "x")])
        # The place 2 of the layer down is taken later.
        house.do(("share", "b", (1, 2)))
        self.check_do(house, ("visit", "b", ()), [("up", "a", "x"), ("down", "b", "x"), ("mid", "c", "x")])
        self.assertEqual(house.ever("b"), [("a", "x"), ("c", "x"), ("b", "x")])

    # By their own places, of one trial each.
    def test_several_trials_of_a_layer(self):
        house = told(DOWN, ("trial", "a", "down", ("x", "y"), ANY, ()), ("trial", "b", "down", ("x", "y"), ANY, ()))
        house.do(("share", "a", (1, 1)))
        house.do(("share", "b", (1, 1)))
        for guest, trial, arm in (("g", "a", "x"), ("h", "a", "y"), ("i", "b", "x"), ("j", "b", "y")):
            self.check_do(house, ("visit", guest, ()), [("down", trial, arm)])
        self.check_do(house, ("visit", "k", ()), [])

    # All points of a small house, each by a guest with it.
    def test_each_guest_has_a_place_in_each_layer(self):
        layers = [("layer", "abcd"[slope], slope) for slope in range(4)]
        trials = [("trial", name, name, ("x", "y", "z"), ANY, ()) for name in "abcd"]
        house = told(*layers, *trials, *[("share", name, (1, 1, 1)) for name in "abcd"], prime=3)
        for number, guest in enumerate("abcdefghi", start=1):
            x, y = divmod(number % 9, 3)
            arms = ["xyz"[place] for place in (x, (x + y) % 3, (x + 2 * y) % 3, y)]
            self.check_do(house, ("visit", guest, ()), [(name, name, arm) for name, arm in zip("abcd", arms)])


class Staying(HouseChecks):
    def start(self, rule=ANY):
        trial = ("trial", "soap", "up", ("old", "new"), rule, ())
        return told(UP, trial, ("share", "soap", (1, 1)), ("visit", "a", (("age", 18),)))

    def test_whatever_the_marks_are(self):
        house = self.start(("least", "age", 18))
        for marks in ((), (("age", 17),), (("size", 1),), (("age", 18),), (("age", -10 ** 30),)):
            self.check_do(house, ("visit", "a", marks), [("up", "soap", "old")])
            self.assertEqual(house.stand("a"), [("up", "soap", "old")])
        self.assertEqual(house.ever("a"), [("soap", "old")])
        self.assertEqual(house.who("soap"), [("a", "old")])

    def test_whatever_is_held_paused_grown_or_opened(self):
        house = self.start()
        for deed in (
            ("hold", "up", 5), ("pause", "soap"), ("hold", "up", 0), ("share", "soap", (3, 1)),
            ("share", "soap", (3, 0)), ("share", "soap", (1, 4)), ("trial", "late", "up", ("x",), ANY, ("soap",)),
            ("share", "late", (2,)), ("layer", "down", 7), ("bar", "b", "soap"), ("bar", "a", "late"),
            ("close", "late"), ("deal", "soap", 5, (1, 4)), ("visit", "b", ()), ("visit", "a", ()), ("go", "soap"),
        ):
            self.check_do(house, deed, [("up", "soap", "old")] if deed[:2] == ("visit", "a") else [])
            self.assertEqual(house.stand("a"), [("up", "soap", "old")], deed)
            self.assertEqual(house.who("soap"), [("a", "old")], deed)

    # Who is in a trial was not asked about a shut that came behind.
    def test_a_shut_that_the_guest_came_into_later(self):
        house = told(UP, DOWN, *full("late", "down"), ("pause", "late"), *full("soap", "up", ANY, ("late",)))
        self.check_do(house, ("visit", "a", ()), [("up", "soap", "x")])
        house.do(("go", "late"))
        self.check_do(house, ("visit", "a", ()), [("up", "soap", "x"), ("down", "late", "x")])
        self.check_do(house, ("visit", "a", ()), [("up", "soap", "x"), ("down", "late", "x")])

    # The place of a guest who is in a trial is never another's.
    def test_until_the_arm_shrinks(self):
        house = self.start()
        self.check_do(house, ("share", "soap", (0, 2)), [("a", "soap", "old")])
        self.assertEqual((house.stand("a"), house.who("soap")), ([], []))


class KeptOut(HouseChecks):
    def check_out(self, house, guest, marks=()):
        self.assertEqual(house.would(guest, marks), [])
        self.check_do(house, ("visit", guest, marks), [])
        self.assertEqual((house.stand(guest), house.ever(guest)), ([], []))

    def test_by_a_pause(self):
        house = told(UP, *full("soap", "up"), ("pause", "soap"))
        self.check_out(house, "a")
        house.do(("go", "soap"))
        self.check_do(house, ("visit", "a", ()), [("up", "soap", "x")])

    def test_by_the_rule(self):
        rule = ("both", ("least", "age", 18), ("not", ("has", "size")))
        house = told(UP, *full("soap", "up", rule))
        for marks in ((), (("age", 17),), (("age", 18), ("size", -3)), (("size", 18),)):
            self.check_out(house, "a", marks)
        self.check_do(house, ("visit", "a", (("nose", 1), ("age", 18))), [("up", "soap", "x")])

    def test_by_rules_of_each_kind(self):
        marks = (("age", 18), ("size", -3))
        for rule, held in (
            (ANY, True), (("has", "age"), True), (("has", "nose"), False), (("least", "size", -3), True),
            (("least", "size", -2), False), (("not", ANY), False), (("either", ("has", "nose"), ("has", "size")), True),
            (("both", ("has", "nose"), ("has", "size")), False), (("least", "nose", -10 ** 30), False),
        ):
            house = told(UP, *full("soap", "up", rule))
            self.check_do(house, ("visit", "a", marks), [("up", "soap", "x")] if held else [])

    def test_by_a_bar(self):
        house = told(UP, *full("soap", "up"), ("bar", "a", "soap"))
        self.check_out(house, "a")
        self.check_do(house, ("visit", "b", ()), [("up", "soap", "x")])

    def test_by_a_shut(self):
        house = told(UP, DOWN, *full("early", "up"), *full("soap", "down", ANY, ("early",)))
        house.do(("visit", "a", ()))
        self.assertEqual(house.ever("a"), [("early", "x")])

    def test_by_a_held_place(self):
        house = told(UP, ("hold", "up", 1), ("trial", "soap", "up", ("x",), ANY, ()), ("share", "soap", (6,)))
        self.check_out(house, "a")
        self.check_do(house, ("visit", "g", ()), [("up", "soap", "x")])

    def test_by_a_free_place(self):
        house = told(UP, ("trial", "soap", "up", ("x",), ANY, ()), ("share", "soap", (1,)))
        self.check_out(house, "g")
        self.check_do(house, ("visit", "a", ()), [("up", "soap", "x")])

    # The place of a closed trial is free.
    def test_by_a_close(self):
        house = told(UP, *full("soap", "up"), ("close", "soap"))
        self.check_out(house, "a")

    # What keeps a guest out of one layer keeps the guest out of no other.
    def test_of_one_layer_alone(self):
        for deed in (("pause", "soap"), ("bar", "a", "soap"), ("share", "soap", (0,)), ("close", "soap")):
            for first, second in (("up", "down"), ("down", "up")):
                house = told(UP, DOWN, *full("soap", first), *full("rope", second), deed)
                self.check_do(house, ("visit", "a", ()), [(second, "rope", "x")])


class Shuts(HouseChecks):
    def test_by_this_same_visit_in_a_layer_ahead(self):
        house = told(UP, DOWN, *full("early", "up"), *full("soap", "down", ANY, ("early",)))
        self.check_do(house, ("visit", "a", ()), [("up", "early", "x")])
        self.check_do(house, ("visit", "a", ()), [("up", "early", "x")])

    def test_none_by_this_same_visit_in_a_layer_behind(self):
        house = told(UP, DOWN, *full("early", "down"), *full("soap", "up", ANY, ("early",)))
        answer = [("up", "soap", "x"), ("down", "early", "x")]
        self.check_do(house, ("visit", "a", ()), answer)
        self.check_do(house, ("visit", "a", ()), answer)
        # Put out of soap, the guest was in early by now.
        house.do(("share", "soap", (0,)))
        house.do(("share", "soap", (7,)))
        self.check_do(house, ("visit", "a", ()), [("down", "early", "x")])

    # The layer between, and not the one next to it.
    def test_in_a_layer_further_ahead(self):
        house = told(UP, MID, DOWN, *full("early", "up"), *full("soap", "mid"), *full("rope", "down", ANY, ("early",)))
        self.check_do(house, ("visit", "a", ()), [("up", "early", "x"), ("mid", "soap", "x")])

    # Who is kept out of a shut is not shut out by it.
    def test_a_shut_that_the_guest_did_not_come_into(self):
        for deed in (("pause", "early"), ("bar", "a", "early"), ("share", "early", (0,)), ("close", "early")):
            house = told(UP, DOWN, *full("early", "up"), *full("soap", "down", ANY, ("early",)), deed)
            self.check_do(house, ("visit", "a", ()), [("down", "soap", "x")])

    def test_ever_in_it_and_no_longer(self):
        for deed in (("share", "early", (0,)), ("close", "early"), ("bar", "a", "early"), ("deal", "early", 0, (1,))):
            house = told(UP, DOWN, *full("early", "up"), *full("soap", "down", ANY, ("early",)), ("pause", "soap"))
            house.do(("visit", "a", ()))
            self.check_do(house, deed, [("a", "early", "x")])
            house.do(("go", "soap"))
            self.check_do(house, ("visit", "a", ()), [])
            self.assertEqual(house.ever("a"), [("early", "x")])

    def test_of_the_same_layer(self):
        house = told(UP, *full("early", "up"), ("trial", "soap", "up", ("x",), ANY, ("early",)))
        house.do(("visit", "a", ()))
        house.do(("share", "early", (0,)))
        house.do(("share", "soap", (7,)))
        self.check_do(house, ("visit", "a", ()), [])
        self.check_do(house, ("visit", "b", ()), [("up", "soap", "x")])

    # soap shuts early out, but early does not shut soap out.
    def test_one_way(self):
        house = told(UP, DOWN, *full("early", "up"), ("pause", "early"), *full("soap", "down", ANY, ("early",)))
        self.check_do(house, ("visit", "a", ()), [("down", "soap", "x")])
        house.do(("go", "early"))
        self.check_do(house, ("visit", "a", ()), [("up", "early", "x"), ("down", "soap", "x")])

    # c shuts b out and b shuts a out; who was in a may still come into c.
    def test_not_by_steps(self):
        house = told(
            UP, MID, DOWN, *full("a", "up"), *full("b", "mid", ANY, ("a",)), *full("c", "down", ANY, ("b",)),
        )
        self.check_do(house, ("visit", "g", ()), [("up", "a", "x"), ("down", "c", "x")])

    def test_each_of_several(self):
        for there in range(8):
            names = ["t" + "abcdefgh"[k] for k in range(8)]
            trials = [("trial", name, "up", ("x",), ANY, ()) for name in names]
            house = told(UP, DOWN, *trials, *full("soap", "down", ANY, tuple(names)), ("share", names[there], (1,)))
            self.check_do(house, ("visit", "a", ()), [("up", names[there], "x")])
            self.check_do(house, ("visit", "g", ()), [("down", "soap", "x")])

    def test_other_guests_are_let_by(self):
        house = told(UP, DOWN, ("trial", "early", "up", ("x",), ANY, ()), *full("soap", "down", ANY, ("early",)))
        house.do(("share", "early", (1,)))
        self.check_do(house, ("visit", "a", ()), [("up", "early", "x")])
        self.check_do(house, ("visit", "g", ()), [("down", "soap", "x")])

    def test_a_closed_trial_as_a_shut(self):
        house = told(UP, DOWN, *full("early", "up"), ("visit", "a", ()), ("close", "early"))
        for deed in full("soap", "down", ANY, ("early",)):
            self.check_do(house, deed, [])
        self.check_do(house, ("visit", "a", ()), [])
        self.check_do(house, ("visit", "b", ()), [("down", "soap", "x")])


class ComingInAgain(HouseChecks):
    def test_by_the_same_arm_and_by_another(self):
        house = told(UP, ("trial", "soap", "up", ("old", "new"), ANY, ()), ("share", "soap", (2, 0)))
        ever = []
        for numbers, arm in (((2, 0), "old"), ((2, 0), "old"), ((0, 2), "new"), ((7, 0), "old")):
            house.do(("share", "soap", numbers))
            self.assertEqual(house.stand("a"), [])
            self.check_do(house, ("visit", "a", ()), [("up", "soap", arm)])
            ever.append(("soap", arm))
            self.assertEqual(house.ever("a"), ever)
            self.check_do(house, ("share", "soap", (0, 0)), [("a", "soap", arm)])
            self.assertEqual(house.ever("a"), ever)

    # The rule is asked again then.
    def test_the_marks_count_again(self):
        house = told(UP, *full("soap", "up", ("has", "age")), ("visit", "a", (("age", 1),)), ("share", "soap", (0,)))
        house.do(("share", "soap", (7,)))
        self.check_do(house, ("visit", "a", ()), [])
        self.check_do(house, ("visit", "a", (("age", 1),)), [("up", "soap", "x")])

    def test_into_another_trial_of_the_layer(self):
        house = told(UP, *full("soap", "up"), ("trial", "rope", "up", ("y",), ANY, ()), ("visit", "a", ()))
        house.do(("share", "soap", (0,)))
        house.do(("share", "rope", (7,)))
        self.check_do(house, ("visit", "a", ()), [("up", "rope", "y")])
        house.do(("close", "rope"))
        house.do(("share", "soap", (1,)))
        self.check_do(house, ("visit", "a", ()), [("up", "soap", "x")])
        self.assertEqual(house.ever("a"), [("soap", "x"), ("rope", "y"), ("soap", "x")])

    # Not by itself: by a visit alone.
    def test_not_without_a_visit(self):
        house = told(UP, *full("soap", "up"), ("visit", "a", ()), ("share", "soap", (0,)))
        for deed in (("share", "soap", (7,)), ("pause", "soap"), ("go", "soap"), ("visit", "b", ()), ("hold", "up", 0)):
            house.do(deed)
            self.assertEqual(house.stand("a"), [], deed)


class Would(HouseChecks):
    def test_as_a_visit_and_nothing_is_changed(self):
        deeds = (
            UP, DOWN, MID, *full("early", "up", ("has", "age")), ("trial", "soap", "down", ("x", "y"), ANY, ("early",)),
            ("share", "soap", (2, 2)), ("hold", "mid", 1), ("trial", "rope", "mid", ("z",), ("least", "age", 18), ()),
            ("share", "rope", (5,)), ("bar", "b", "soap"), ("visit", "c", MARKS[1]), ("visit", "g", ()),
            ("pause", "early"), ("visit", "h", MARKS[2]), ("go", "early"), ("share", "soap", (3, 1)),
        )
        for guest in self.guests:
            for marks in self.some_marks:
                house = told(*deeds)
                before = self.everything(house)
                answer = house.would(guest, marks)
                self.assertIs(type(answer), list)
                self.assertEqual(self.everything(house), before)
                self.check_do(house, ("visit", guest, marks), answer)
                self.assertEqual(house.stand(guest), answer)

    def test_some_by_hand(self):
        house = told(UP, DOWN, *full("early", "up", ("has", "age")), *full("soap", "down", ANY, ("early",)))
        self.assertEqual(house.would("a", ()), [("down", "soap", "x")])
        self.assertEqual(house.would("a", (("age", 1),)), [("up", "early", "x")])
        self.assertEqual(house.would("a", ()), [("down", "soap", "x")])
        self.assertEqual((house.stand("a"), house.ever("a"), house.who("soap")), ([], [], []))
        house.do(("visit", "a", ()))
        self.assertEqual(house.would("a", (("age", 1),)), [("up", "early", "x"), ("down", "soap", "x")])
        self.assertEqual(house.ever("a"), [("soap", "x")])


class Ever(HouseChecks):
    # By when the guest came in, not by layers or names.
    def test_order(self):
        house = told(UP, MID, DOWN, *full("c", "up"), *full("b", "mid"), *full("a", "down"))
        house.do(("pause", "c"))
        house.do(("pause", "a"))
        house.do(("visit", "g", ()))
        house.do(("go", "a"))
        house.do(("visit", "g", ()))
        house.do(("go", "c"))
        house.do(("share", "b", (0,)))
        house.do(("share", "b", (7,)))
        house.do(("visit", "g", ()))
        self.assertEqual(house.ever("g"), [("b", "x"), ("a", "x"), ("c", "x"), ("b", "x")])
        self.assertEqual(house.stand("g"), [("up", "c", "x"), ("mid", "b", "x"), ("down", "a", "x")])

    def test_staying_is_not_counted(self):
        house = told(UP, *full("soap", "up"), *[("visit", guest, ()) for guest in "aaba"])
        self.assertEqual(house.ever("a"), [("soap", "x")])
        self.assertEqual(house.ever("b"), [("soap", "x")])

    def test_behind_a_close_and_a_bar(self):
        house = told(UP, DOWN, *full("soap", "up"), *full("rope", "down"), ("visit", "a", ()), ("close", "soap"))
        house.do(("bar", "a", "rope"))
        self.assertEqual((house.ever("a"), house.stand("a")), ([("soap", "x"), ("rope", "x")], []))

    def test_nothing(self):
        house = told(UP, ("visit", "a", ()))
        for guest in ("a", "never"):
            self.assertEqual((house.ever(guest), house.stand(guest)), ([], []))


if __name__ == "__main__":
    unittest.main()
