"""Relation papers: what shows that a relation holds at the end of every run."""

from twodivisions.checks import is_sign
from twodivisions.comparing import signs_of
from twodivisions.errors import InvalidForm, InvalidProgram, InvalidSign
from twodivisions.machines import is_state, zero_row
from twodivisions.papers import is_led, is_rows, is_steps, is_tuples
from twodivisions.programs import Program, weighed
from twodivisions.relations import Reader
from twodivisions.rows import is_form


def relation_table(reader, size, entries):
    """The dict of the states to (rows, steps) that the entries for a sign tell, or None if they have not this form."""
    states = reader.states()
    width = len(reader.first_row())
    table = {}
    for entry in entries:
        if len(entry) != 3:
            return None
        state, rows, steps = entry
        if not (is_state(state) and state in states and state not in table):
            return None
        if not (is_rows(rows, width) and is_steps(steps, len(rows), size)):
            return None
        table[state] = (rows, steps)
    return table


def is_right_for(form, reader, size, entries):
    """Whether the entries for a sign are right for a relation."""
    table = relation_table(reader, size, entries)
    first = reader.states()[0]
    if table is None or first not in table or reader.first_row() not in table[first][0]:
        return False
    # As in agreement papers, an entry without rows is never one of a right paper: figures lead to each state.
    for state, (rows, _) in table.items():
        for row in rows:
            if any([weighed(form, end) != 0 for _, end in reader.closed(state, row)]):
                return False
        if not is_led(table, state, size, reader.lead):
            return False
    return True


def holds_at_zero(program, form):
    """Whether a relation holds at 0."""
    zero = zero_row(program)
    return zero is None or weighed(form, (*zero, 0, 1)) == 0


def check_relation(program, form, paper, *, sign=None):
    """Whether any value is a relation paper of a program and a sign that is right for a relation."""
    if not isinstance(program, Program):
        raise InvalidProgram(program)
    if not is_form(form, len(program.registers()) + 2):
        raise InvalidForm(form)
    if sign is not None and not is_sign(sign):
        raise InvalidSign(sign)
    signs = signs_of(sign)
    if not is_tuples(paper, len(signs)) or not all([is_tuples(entries) for entries in paper]):
        return False
    if sign != -1 and not holds_at_zero(program, form):
        return False
    for own, entries in zip(signs, paper):
        if not is_right_for(form, Reader(program, own), program.size, entries):
            return False
    return True
