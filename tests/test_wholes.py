"""Tests of twodivisions.wholes."""

from tests.samples import RULES, STRANGE, Case, divided
from twodivisions.wholes import Desk, Whole


def amounts(*wholes):
    return [whole.amount for whole in wholes]


class DeskTest(Case):
    def test_rule_of_a_new_desk(self):
        self.assertEqual(Desk().rule, "down")
        for rule in RULES:
            self.assertEqual([Desk(rule).rule, Desk(rule=rule).rule], [rule, rule])

    def test_rule_is_assigned(self):
        desk = Desk("up")
        for rule in RULES:
            desk.rule = rule
            self.assertEqual(desk.rule, rule)
        for rule in RULES:
            self.assertIsNone(desk.set_rule(rule))
            self.assertEqual(desk.rule, rule)
        desk.set_rule(rule="zero")
        self.assertEqual(desk.rule, "zero")

    def test_desks_are_apart(self):
        one, other = Desk(), Desk()
        one.rule = "near"
        self.assertEqual([one.rule, other.rule], ["near", "down"])

    def test_wrong_rules(self):
        desk = Desk("up")

        def assign(value):
            desk.rule = value

        for value in STRANGE + [0]:
            self.refused("InvalidRule", [value], Desk, value)
            self.refused("InvalidRule", [value], assign, value)
            self.refused("InvalidRule", [value], desk.set_rule, value)
            self.refused("InvalidRule", [value], desk.using, value)
            self.refused("InvalidRule", [value], desk.within, value, self.fail)
            self.assertEqual(desk.rule, "up")

    def test_make(self):
        desk = Desk()
        for value in [0, 1, -1, 10 ** 30, -10 ** 59]:
            self.assertEqual(desk.make(value).amount, value)
        self.assertIsInstance(desk.make(value=3), Whole)
        for value in STRANGE:
            self.refused("InvalidNumber", [value], desk.make, value)


class BlocksTest(Case):
    def test_using(self):
        desk = Desk("up")
        block = desk.using("near")
        self.assertEqual(desk.rule, "up")
        with block as held:
            self.assertIs(held, desk)
            self.assertEqual(desk.rule, "near")
        self.assertEqual(desk.rule, "up")
        with desk.using(rule="zero"):
            self.assertEqual(desk.rule, "zero")

    def test_nested(self):
        desk = Desk("up")
        with desk.using("near"):
            with desk.using("zero"):
                with desk.using("zero"):
                    self.assertEqual(desk.rule, "zero")
                self.assertEqual(desk.rule, "zero")
            self.assertEqual(desk.rule, "near")
        self.assertEqual(desk.rule, "up")

    def test_the_rule_ahead_of_the_block_comes_back(self):
        desk = Desk("up")
        block = desk.using("near")
        desk.rule = "positive"
        with block:
            desk.rule = "zero"
            self.assertEqual(desk.rule, "zero")
        self.assertEqual(desk.rule, "positive")

    def test_left_by_errors(self):
        desk = Desk("up")
        with self.assertRaises(KeyError):
            with desk.using("near"):
                with desk.using("zero"):
                    raise KeyError("x")
        self.assertEqual(desk.rule, "up")
        with desk.using("near"):
            with self.assertRaises(KeyError):
                with desk.using("zero"):
                    raise KeyError("x")
            self.assertEqual(desk.rule, "near")
        self.assertEqual(desk.rule, "up")

    def test_left_by_a_return(self):
        desk = Desk("up")

        def told():
            with desk.using("near"):
                return desk.rule

        self.assertEqual([told(), desk.rule], ["near", "up"])

    def test_an_invalid_rule_in_a_block(self):
        desk = Desk("up")
        with desk.using("near"):
            self.refused("InvalidRule", ["x"], desk.using, "x")
            self.assertEqual(desk.rule, "near")
        self.assertEqual(desk.rule, "up")

    def test_within(self):
        desk = Desk("up")
        seven = desk.make(-7)
        self.assertEqual(desk.within("down", lambda: (seven // 2).amount), -4)
        self.assertEqual(desk.within(rule="zero", call=lambda: desk.rule), "zero")
        self.assertIsNone(desk.within("zero", lambda: None))
        self.assertEqual(desk.rule, "up")

    def test_within_nested(self):
        desk = Desk("up")

        def inner():
            return desk.rule

        def outer():
            return [desk.rule, desk.within("near", inner), desk.rule]

        self.assertEqual(desk.within("zero", outer), ["zero", "near", "zero"])
        self.assertEqual(desk.rule, "up")

    def test_within_left_by_an_error(self):
        desk = Desk("up")
        error = KeyError("x")

        def wrong():
            self.assertEqual(desk.rule, "near")
            desk.rule = "zero"
            raise error

        with self.assertRaises(KeyError) as caught:
            desk.within("near", wrong)
        self.assertIs(caught.exception, error)
        self.assertEqual(desk.rule, "up")


class WholeTest(Case):
    def test_all_rules(self):
        for rule in RULES:
            desk = Desk(rule)
            for x in [*range(-25, 26), 10 ** 25 + 5, -10 ** 25 - 5]:
                for base in [-13, -10, -4, -1, 1, 2, 5, 10, 12]:
                    wanted = divided(rule, x, base)
                    whole = desk.make(x)
                    self.assertEqual(whole.parts(base), wanted)
                    self.assertEqual(whole.parts(desk.make(base)), wanted)
                    self.assertEqual(amounts(whole // base, whole % base), list(wanted))
                    self.assertEqual(amounts(whole // desk.make(base), whole % desk.make(base)), list(wanted))
                    self.assertEqual(amounts(x // desk.make(base), x % desk.make(base)), list(wanted))
                    self.assertEqual(whole.amount, x)

    def test_kinds_of_values(self):
        desk = Desk()
        whole, other = desk.make(-7), desk.make(2)
        for told in [whole // 2, whole % 2, whole // other, whole % other, 7 // other, 7 % other]:
            self.assertIsInstance(told, Whole)
        told = whole.parts(other=other)
        self.assertIs(type(told), tuple)
        self.assertEqual([type(part) for part in told], [int, int])

    def test_the_rule_in_force_when_it_divides(self):
        desk = Desk("down")
        whole = desk.make(-7)
        self.assertEqual(whole.parts(2), (-4, 1))
        desk.rule = "up"
        self.assertEqual(whole.parts(2), (-3, -1))
        with desk.using("positive"):
            self.assertEqual(amounts(whole // 2, whole % 2, -7 // desk.make(2)), [-4, 1, -4])
        self.assertEqual(amounts(whole // 2, whole % 2, -7 // desk.make(2)), [-3, -1, -3])

    def test_the_desk_of_the_left_whole(self):
        low, high = Desk("down"), Desk("up")
        one, other = low.make(-7), high.make(2)
        self.assertEqual(one.parts(other), (-4, 1))
        self.assertEqual(amounts(one // other, one % other), [-4, 1])
        self.assertEqual(high.make(-7).parts(low.make(2)), (-3, -1))
        quotient, rest = one // other, one % other
        low.rule = "zero"
        high.rule = "positive"
        self.assertEqual([quotient.parts(3), (high.make(-7) // one).parts(2)], [(-1, -1), (0, 1)])
        self.assertEqual((rest // -2).amount, 0)

    def test_quotients_stay_at_the_desk(self):
        desk = Desk("down")
        told = [desk.make(-15) // 2, desk.make(-15) % -8, -15 // desk.make(2), -15 % desk.make(-8)]
        self.assertEqual(amounts(*told), [-8, -7, -8, -7])
        self.assertEqual(amounts(*[whole // 3 for whole in told]), [-3, -3, -3, -3])
        desk.rule = "up"
        self.assertEqual(amounts(*[whole // 3 for whole in told]), [-2, -2, -2, -2])

    def test_in_place(self):
        desk = Desk("down")
        whole = name = desk.make(-15)
        whole //= 2
        self.assertIs(whole, name)
        self.assertEqual(name.amount, -8)
        whole %= 3
        self.assertIs(whole, name)
        self.assertEqual(name.amount, 1)
        row = [desk.make(-15)]
        kept = row[0]
        row[0] //= desk.make(2)
        self.assertEqual([kept.amount, row[0] is kept], [-8, True])
        row[0] %= desk.make(-3)
        self.assertEqual([kept.amount, row[0] is kept], [-2, True])

    def test_in_place_at_the_own_desk(self):
        low, high = Desk("down"), Desk("up")
        whole, other = low.make(-15), high.make(2)
        whole //= other
        self.assertEqual(amounts(whole, other), [-8, 2])
        low.rule = "zero"
        high.rule = "down"
        whole //= 3
        self.assertEqual(whole.amount, -2)
        whole = low.make(-15)
        whole %= other
        self.assertEqual(amounts(whole, other), [-1, 2])

    def test_by_itself(self):
        desk = Desk("near")
        whole = desk.make(-7)
        self.assertEqual(whole.parts(whole), (1, 0))
        whole //= whole
        self.assertEqual(whole.amount, 1)
        whole %= whole
        self.assertEqual(whole.amount, 0)

    def test_division_by_zero(self):
        for rule in RULES:
            desk = Desk(rule)
            whole, nothing = desk.make(-7), desk.make(0)
            for zero in [0, nothing, Desk("up").make(0)]:
                self.refused("DivisionByZero", [], lambda: whole // zero)
                self.refused("DivisionByZero", [], lambda: whole % zero)
                self.refused("DivisionByZero", [], whole.parts, zero)
                self.refused("DivisionByZero", [], self.divide_in_place, whole, zero)
                self.refused("DivisionByZero", [], self.rest_in_place, whole, zero)
            self.refused("DivisionByZero", [], lambda: 7 // nothing)
            self.refused("DivisionByZero", [], lambda: 7 % nothing)
            self.refused("DivisionByZero", [], lambda: nothing // 0)
            self.refused("DivisionByZero", [], lambda: nothing % nothing)
            self.assertEqual(amounts(whole, nothing), [-7, 0])
            self.assertEqual(desk.rule, rule)

    @staticmethod
    def divide_in_place(whole, other):
        whole //= other

    @staticmethod
    def rest_in_place(whole, other):
        whole %= other

    def test_equality(self):
        desk = Desk("down")
        whole = desk.make(7)
        for other in [whole, desk.make(7), Desk("up").make(7), desk.make(22) // 3]:
            self.assertTrue(whole == other)
            self.assertFalse(whole != other)
        for other in [desk.make(8), desk.make(-7), 7, 7.0, "7", (7,), [7], desk, *STRANGE]:
            self.assertFalse(whole == other)
            self.assertTrue(whole != other)
        self.assertFalse(desk.make(1) == True)
        self.assertFalse(desk.make(0) == False)
