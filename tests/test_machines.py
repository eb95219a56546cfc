import random
import unittest

from twodivisions.figures import figures_of
from twodivisions.machines import Machine, zero_row
from twodivisions.programs import Program

from tests.oracles import next_state, states_by_words
from tests.samples import STRANGE, Case, play, play_from, some_parts, sums, turned, two_modes, weigh


def row_by(row, matrix):
    """The row times the matrix."""
    assert len(row) == len(matrix)
    return tuple(weigh([line[at] for line in matrix], row) for at in range(len(matrix[0])))


def unit(many):
    return tuple(tuple(int(at == place) for at in range(many)) for place in range(many))


class StatesTest(Case):
    def test_first(self):
        for sign in (1, -1):
            self.assertEqual(Machine(turned(), sign).first(), ("m", sign, 0))
            self.assertEqual(Machine(program=two_modes(), sign=sign).first(), ("odd", sign, 0))

    def test_states_are_told_breadth_first(self):
        for parts in some_parts(60):
            for sign in (1, -1):
                machine = Machine(Program(*parts), sign)
                self.assertEqual(machine.states(), states_by_words(parts, sign))

    def test_the_list_is_new(self):
        machine = Machine(two_modes(), 1)
        told = machine.states()
        machine.states().clear()
        self.assertEqual(machine.states(), told)

    def test_a_state_can_be_that_of_a_run_that_stopped(self):
        keep = ((1, 0, 0),)
        stops = Program(10, [("r", 4)], [("m", "down", [(None, None, keep, None)])], [], (1, 0))
        machine = Machine(stops, -1)
        self.assertEqual(machine.states(), [("m", -1, 0), ()])
        for figure in range(10):
            self.assertEqual(machine.step((), figure), ((), unit(2)))
        for figure in range(1, 10):
            self.assertEqual(machine.tail((), figure), unit(2))

    def test_the_sign_turns_with_a_base_below_0(self):
        self.assertEqual(Machine(turned().changed(base=-10), -1).states(), [("m", -1, 0), ("m", 1, 0)])


class MatricesTest(Case):
    def test_steps(self):
        chance = random.Random(3)
        for parts in some_parts(25):
            many = len(parts[1])
            for sign in (1, -1):
                machine = Machine(Program(*parts), sign)
                for state in machine.states():
                    for figure in range(abs(parts[0])):
                        told = machine.step(state, figure)
                        behind, updates, remainder = next_state(parts, state, figure)
                        self.assertIsInstance(told, tuple)
                        self.assertEqual(told[0], behind)
                        self.look_at_shape(told[1], many)
                        row = [chance.randint(-9, 9) for _ in range(many + 1)]
                        wanted = row
                        if state != ():
                            sums_ = [weigh(update, [*row[:-1], remainder * row[-1], row[-1]]) for update in updates]
                            wanted = [*sums_, row[-1]]
                        self.assertEqual(row_by(row, told[1]), tuple(wanted))

    def look_at_shape(self, matrix, many):
        self.assertIsInstance(matrix, tuple)
        self.assertEqual([type(line) for line in matrix], [tuple] * (many + 1))
        self.assertEqual([len(line) for line in matrix], [many + 1] * (many + 1))
        self.assertEqual([line[-1] for line in matrix], [0] * many + [1])

    def test_tails(self):
        chance = random.Random(4)
        endless = 0
        for parts in some_parts(40):
            many = len(parts[1])
            for sign in (1, -1):
                machine = Machine(Program(*parts), sign)
                for state in machine.states():
                    for figure in range(1, abs(parts[0])):
                        told = machine.tail(state, figure)
                        if state == ():
                            self.assertEqual(told, unit(many + 1))
                            continue
                        mode, own, extra = state
                        values = [chance.randint(-9, 9) for _ in range(many)]
                        run = play_from(parts, mode, own * (figure + extra), values)
                        self.assertEqual(told is None, run["how"] == "endless")
                        if told is None:
                            endless += 1
                            continue
                        self.look_at_shape(told, many)
                        self.assertEqual(row_by([*values, 1], told), (*run["registers"][-1], 1))
                        # The last number stands for 1, so all of the row can be multiplied.
                        row = row_by([3 * value for value in values] + [3], told)
                        self.assertEqual(row, (*[3 * value for value in run["registers"][-1]], 3))
        self.assertGreater(endless, 100)

    def test_a_state_of_a_carry_can_rest_at_once(self):
        up = Program(10, [("r", 2)], [("m", "up", [(None, None, ((1, 1, 5),), "m")])], [4], (1, 0))
        machine = Machine(up, 1)
        self.assertEqual(machine.states(), [("m", 1, 0), ("m", 1, 1)])
        self.assertEqual([machine.tail(("m", 1, 1), 3), machine.tail(("m", 1, 0), 4)], [unit(2), unit(2)])
        self.assertIsNone(machine.tail(("m", 1, 0), 3))
        self.assertEqual(machine.step(("m", 1, 1), 9), (("m", 1, 1), ((1, 0), (5, 1))))

    def test_the_matrices_by_name(self):
        machine = Machine(turned(), 1)
        self.assertEqual(machine.step(state=("m", 1, 0), figure=7), (("m", 1, 0), ((10, 0), (7, 1))))
        self.assertEqual(machine.tail(state=("m", 1, 0), figure=7), ((10, 0), (7, 1)))


class RefusedTest(Case):
    def test_signs(self):
        for sign in [*STRANGE, 0, 2, -2, 10 ** 30]:
            self.refused("InvalidSign", [sign], Machine, turned(), sign)

    def test_values_that_are_no_states(self):
        machine = Machine(two_modes(), 1)
        wrong = [*STRANGE, ("odd", 1), ("odd", 1, 0, 0), ["odd", 1, 0], ("odd", True, 0), ("odd", 1, False),
                 ("odd", 1, True), ("odds", 1, 0), ("odd", 0, 0), ("odd", 1, 2), ("odd", 2, 0), ("odd", 1, -1),
                 ([], 1, 0), ("odd", [], 0), ("odd", 1, {}), (None, None, None), 0, 1, "odd", (("odd", 1, 0),)]
        for state in wrong:
            for figure in [0, 1, None, -1]:
                self.refused("InvalidState", [state], machine.step, state, figure)
                self.refused("InvalidState", [state], machine.tail, state, figure)

    def test_states_of_other_machines(self):
        machine = Machine(turned(), 1)
        for state in [("m", -1, 0), ("m", 1, 1), ()]:
            self.refused("InvalidState", [state], machine.step, state, 3)
            self.refused("InvalidState", [state], machine.tail, state, 3)

    def test_values_that_are_no_figures(self):
        machine = Machine(two_modes(), 1)
        for figure in [*STRANGE, -1, 4, 5, 10, 10 ** 40]:
            self.refused("InvalidNumber", [figure], machine.step, ("odd", 1, 0), figure)
            self.refused("InvalidNumber", [figure], machine.tail, ("odd", 1, 0), figure)
        self.refused("InvalidNumber", [0], machine.tail, ("odd", 1, 0), 0)
        self.assertEqual(machine.step(("odd", 1, 0), 0)[0], ("even", -1, 0))

    def test_tuples_that_are_no_figures_of_a_number(self):
        machine = Machine(two_modes(), 1)
        wrong = [*STRANGE, (0,), (1, 0), (4,), (1, 4, 1), (-1,), (1, -1, 1), (True,), (1, True), (False, 1), (None,),
                 ("1",), [1], [1, 2], ((1,),), ([],), 1, 12, "12"]
        for figures in wrong:
            self.refused("InvalidFigures", [figures], machine, figures)


class CalledTest(Case):
    def test_beside_runs(self):
        chance = random.Random(5)
        for parts in some_parts(60):
            size = abs(parts[0])
            for sign in (1, -1):
                machine = Machine(Program(*parts), sign)
                for many in [1, 1, 2, 3, 4, 60]:
                    number = sign * chance.randint(size ** (many - 1), size ** many - 1)
                    self.assertEqual(machine(figures_of(number, size)), play(parts, number)["result"])

    def test_all_numbers_of_one_figure(self):
        for parts in some_parts(30):
            for sign in (1, -1):
                machine = Machine(Program(*parts), sign)
                for figure in range(1, abs(parts[0])):
                    self.assertEqual(machine((figure,)), play(parts, sign * figure)["result"])

    def test_by_name(self):
        self.assertEqual(Machine(turned(), -1)(figures=(0, 2, 1)), -21)
        self.assertIsNone(Machine(sums().under("down"), -1)((3,)))
        self.assertEqual(Machine(sums().under("down"), 1)((3, 9)), 12)

    def test_machines_are_unequal_to_other_values(self):
        machine = Machine(turned(), 1)
        for value in [*STRANGE, turned()]:
            self.assertTrue(machine != value)
            self.assertFalse(machine == value)
        self.assertTrue(machine == machine)


class ZeroRowTest(Case):
    def test_beside_runs(self):
        hows = set()
        for parts in some_parts(200):
            run = play(parts, 0)
            hows.add(run["how"])
            self.assertEqual(zero_row(Program(*parts)), None if run["how"] == "endless" else run["registers"][-1])
        self.assertEqual(hows, {"rests", "stops", "endless"})

    def test_by_name(self):
        self.assertEqual(zero_row(program=two_modes()), (5, -7))
        self.assertEqual(zero_row(two_modes().changed(ends=())), (5, -5))
        self.assertIsNone(zero_row(sums().changed(ends=())))


if __name__ == "__main__":
    unittest.main()
