"""Agreement papers: what shows that two programs are alike on all numbers."""

from twodivisions.checks import is_integer
from twodivisions.comparing import Couple, Search, check_programs, is_alike_at, row_behind, signs_of, terms_of
from twodivisions.machines import is_state
from twodivisions.rows import is_form


def agreement_paper(one, other):
    """An agreement paper of two programs that is right, or None if some number parts them."""
    check_programs(one, other)
    if not is_alike_at(one, other, 0):
        return None
    halves = []
    for sign in signs_of(None):
        couple = Couple(one, other, sign)
        search = Search(couple.first_pair(), couple.first_row(), one.size, couple.lead)
        for pair, row in search.finds():
            if any([couple.is_parted(pair, figure, row) for figure in range(1, one.size)]):
                return None
        halves.append(tuple([(*pair, rows, steps) for pair, rows, steps in search.steps()]))
    return tuple(halves)


def is_tuples(value, many=None):
    """Whether a value is a tuple of tuples, of so many if that is told."""
    if not isinstance(value, tuple) or not all([isinstance(part, tuple) for part in value]):
        return False
    return many is None or len(value) == many


def is_rows(value, width):
    """Whether a value is a tuple of tuples of so many integers."""
    return isinstance(value, tuple) and all([is_form(row, width) for row in value])


def is_part(value):
    """Whether a value is a tuple of integers (whole, parts ..) with whole from 1 on."""
    if not isinstance(value, tuple) or not all([is_integer(entry) for entry in value]):
        return False
    return len(value) >= 1 and value[0] >= 1


def is_steps(value, many, size):
    """Whether a value is a tuple that has for each of so many rows a tuple of parts for each figure."""
    if not is_tuples(value, many):
        return False
    return all([len(parts) == size and all([is_part(part) for part in parts]) for parts in value])


def is_sum(part, columns, row):
    """Whether whole times a row is the sum of the parts times the rows that have these columns."""
    return row_behind(part[1:], columns) == tuple([part[0] * entry for entry in row])


def is_led(table, key, size, follow):
    """Whether the rows that come next behind those of a key are the sums that its steps tell.

    The table has for each key the tuple (rows, steps).
    """
    rows, steps = table[key]
    for figure in range(size):
        behind, columns = follow(key, figure)
        if behind not in table:
            return False
        others = table[behind][0]
        # Not by zip: if there are no rows behind, each column is empty.
        lines = [terms_of([other[at] for other in others]) for at in range(len(columns))]
        for row, parts in zip(rows, steps):
            if len(parts[figure]) != len(others) + 1:
                return False
            if not is_sum(parts[figure], lines, row_behind(row, columns)):
                return False
    return True


def agreement_table(couple, size, entries):
    """The dict of the pairs to (rows, steps) that the entries for a sign tell, or None if they have not this form."""
    pairs = {pair: True for pair in couple.pairs()}
    width = len(couple.first_row())
    table = {}
    for entry in entries:
        if len(entry) != 4:
            return None
        state, beside, rows, steps = entry
        if not (is_state(state) and is_state(beside) and (state, beside) in pairs and (state, beside) not in table):
            return None
        if not (is_rows(rows, width) and is_steps(steps, len(rows), size)):
            return None
        table[state, beside] = (rows, steps)
    return table


def is_right_half(couple, size, entries):
    """Whether the entries for a sign are right."""
    table = agreement_table(couple, size, entries)
    first = couple.first_pair()
    if table is None or first not in table or couple.first_row() not in table[first][0]:
        return False
    # The last number of the first row is not 0, so each pair to which figures lead has a row like it, and
    # an entry without rows, of which nothing more is asked here, is never one of a right paper.
    for pair, (rows, _) in table.items():
        for figure in range(1, size):
            if any([couple.is_parted(pair, figure, row) for row in rows]):
                return False
        if not is_led(table, pair, size, couple.lead):
            return False
    return True


def check_agreement(one, other, paper):
    """Whether any value is an agreement paper of two programs that is right."""
    check_programs(one, other)
    if not (isinstance(paper, tuple) and len(paper) == 2 and is_tuples(paper[0]) and is_tuples(paper[1])):
        return False
    if not is_alike_at(one, other, 0):
        return False
    for sign, entries in zip(signs_of(None), paper):
        if not is_right_half(Couple(one, other, sign), one.size, entries):
            return False
    return True
