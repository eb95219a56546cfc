"""The numbers on which a program never ends."""

from twodivisions.checks import is_between, is_integer, is_sign
from twodivisions.errors import InvalidNumber, InvalidSign, Unlike
from twodivisions.machines import Machine, pairs_of
from twodivisions.programs import is_endless

LONGEST = 1000
# The order in which two numbers of the same size are told.
SIGNS = (-1, 1)


def places_of(size, many):
    """The list of the first powers of a size."""
    places = []
    place = 1
    for _ in range(many):
        places.append(place)
        place = place * size
    return places


def keep_least(lows, key, number):
    """Keep the number for the key, unless there is a lesser one."""
    if key not in lows or number < lows[key]:
        lows[key] = number


def ahead_of(leads, figure, states):
    """The list of the states from which a figure leads to one of these states."""
    return [state for state, behind in leads.items() if behind[figure] in states]


class EndlessNumbers:
    """The set of the numbers on which a program never ends."""

    def __init__(self, program):
        self._program = program
        self._size = program.size
        self._machines = {sign: Machine(program, sign) for sign in SIGNS}

    def __contains__(self, number):
        return is_integer(number) and is_endless(self._program, number)

    def _behind(self, sign):
        # For each state the states that come next, as often as there are figures that lead to them.
        machine = self._machines[sign]
        return {
            state: [machine.step(state, figure)[0] for figure in range(self._size)] for state in machine.states()
        }

    def _highest(self, sign):
        # For each state the figures that make the number endless if they are the highest ones.
        machine = self._machines[sign]
        return {
            state: [figure for figure in range(1, self._size) if machine.tail(state, figure) is None]
            for state in machine.states()
        }

    def count(self, figures, sign):
        """How many endless numbers with so many figures and a sign there are."""
        if not is_between(figures, 0, LONGEST):
            raise InvalidNumber(figures)
        if not is_sign(sign):
            raise InvalidSign(sign)
        if figures == 0:
            return 1 if is_endless(self._program, 0) else 0
        leads = self._behind(sign)
        ways = {self._machines[sign].first(): 1}
        for _ in range(figures - 1):
            longer = {}
            for state, many in ways.items():
                for behind in leads[state]:
                    longer[behind] = longer.get(behind, 0) + many
            ways = longer
        highest = self._highest(sign)
        return sum([many * len(highest[state]) for state, many in ways.items()])

    def least(self, sign):
        """The endless number of least size that has the sign, or None; 0 has the sign 1."""
        if not is_sign(sign):
            raise InvalidSign(sign)
        if sign == 1 and is_endless(self._program, 0):
            return 0
        leads = self._behind(sign)
        highest = self._highest(sign)
        # For each state the least number whose figures lead to it, all of them with as many figures.
        lows = {self._machines[sign].first(): 0}
        # A shortest way to an endless number goes through no state twice.
        for place in places_of(self._size, len(leads)):
            found = {}
            longer = {}
            for state, low in lows.items():
                for figure in highest[state][:1]:
                    keep_least(found, sign, figure * place + low)
                for figure, behind in enumerate(leads[state]):
                    keep_least(longer, behind, figure * place + low)
            if sign in found:
                return sign * found[sign]
            lows = longer
        return None

    def numbers(self, figures):
        """Yields the endless numbers with at most so many figures, by size, the one below 0 first."""
        if not is_between(figures, 0, LONGEST):
            raise InvalidNumber(figures)
        if is_endless(self._program, 0):
            yield 0
        wheres = [self._wheres(sign, figures) for sign in SIGNS]
        for many in range(1, figures + 1):
            yield from self._with_figures(many, wheres)

    def _wheres(self, sign, most):
        # The dicts of the states to which so many figures lead, each with the states that come next.
        leads = self._behind(sign)
        wheres = []
        states = {self._machines[sign].first(): True}
        for _ in range(most):
            wheres.append({state: leads[state] for state in states})
            states = {behind: True for state in states for behind in leads[state]}
        return wheres

    def _with_figures(self, many, wheres):
        # Figures are chosen from the highest one down, and only those that some endless number has:
        # for both signs the states are kept from which the chosen figures are endless.
        places = places_of(self._size, many)
        todo = []
        for figure in range(self._size - 1, 0, -1):
            todo.append((many - 1, figure * places[-1], self._tops(wheres, many - 1, figure)))
        while todo != []:
            left, total, wanted = todo.pop()
            if left > 0 and wanted != [[], []]:
                for figure in range(self._size - 1, -1, -1):
                    more = [ahead_of(where[left - 1], figure, states) for where, states in zip(wheres, wanted)]
                    todo.append((left - 1, total + figure * places[left - 1], more))
            if left == 0:
                for sign, states in zip(SIGNS, wanted):
                    if states != []:
                        yield sign * total

    def _tops(self, wheres, place, figure):
        return [
            [state for state in where[place] if self._machines[sign].tail(state, figure) is None]
            for sign, where in zip(SIGNS, wheres)
        ]

    def is_empty(self):
        """Whether there is no endless number."""
        return self.least(1) is None and self.least(-1) is None

    def __le__(self, other):
        if not isinstance(other, EndlessNumbers):
            return NotImplemented
        if self._size != other._size:
            raise Unlike(self._size, other._size)
        if is_endless(self._program, 0) and not is_endless(other._program, 0):
            return False
        return all([self._is_within(other, sign) for sign in SIGNS])

    def _is_within(self, other, sign):
        machine = self._machines[sign]
        beside = other._machines[sign]
        for state, match in pairs_of(machine, beside, self._size):
            for figure in range(1, self._size):
                if machine.tail(state, figure) is None and beside.tail(match, figure) is not None:
                    return False
        return True
