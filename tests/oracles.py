"""What the tests of papers use: rounds by the words of the document, own readers of papers, and pairs of programs."""

from tests.samples import RULES, divided, in_force, play, weigh


def next_state(parts, state, figure):
    """The state behind a figure and the updates and the remainder of the round, by dividing a number."""
    if state == ():
        return (), None, None
    base, _, modes, _, _ = parts
    mode, sign, extra = state
    rule, rows = [(rule, rows) for name, rule, rows in modes if name == mode][0]
    x = sign * (abs(base) * 17 + figure + extra)
    quotient, remainder = divided(rule, x, base)
    updates, then = in_force(rows, sign, remainder)
    turned_sign = sign if base > 0 else -sign
    behind = turned_sign * quotient - 17
    assert behind in (0, 1)
    return (() if then is None else (then, turned_sign, behind)), updates, remainder


def first_state(parts, sign):
    """The first state of the machine for a sign."""
    return parts[2][0][0], sign, 0


def values_behind(updates, remainder, values, last):
    """The registers behind a round, with a last number that stands for 1."""
    if updates is None:
        return tuple(values)
    return tuple(weigh(update, [*values, remainder * last, last]) for update in updates)


def values_at_end(parts, state, figure, values, last):
    """The registers at the end if this is the highest figure, or None."""
    if state == ():
        return tuple(values)
    base, _, modes, ends, _ = parts
    mode, sign, extra = state
    x = sign * (figure + extra)
    seen = []
    while x not in ends:
        if (mode, x) in seen:
            return None
        seen.append((mode, x))
        rule, rows = [(rule, rows) for name, rule, rows in modes if name == mode][0]
        x_next, remainder = divided(rule, x, base)
        updates, then = in_force(rows, (x > 0) - (x < 0), remainder)
        values = values_behind(updates, remainder, values, last)
        if then is None:
            break
        mode, x = then, x_next
    return tuple(values)


def pairs_by_words(one, other, sign):
    """The pairs of states, found by own rounds."""
    found = [(first_state(one, sign), first_state(other, sign))]
    for state, beside in found:
        for figure in range(abs(one[0])):
            pair = (next_state(one, state, figure)[0], next_state(other, beside, figure)[0])
            if pair not in found:
                found.append(pair)
    return found


def is_ints(value, many=None):
    """Whether a value is a tuple of integers, of so many if that is told."""
    return type(value) is tuple and all(type(n) is int for n in value) and many in (None, len(value))


def has_steps(steps, rows, size):
    """Whether the steps of an entry have the told form."""
    if type(steps) is not tuple or len(steps) != len(rows):
        return False
    for step in steps:
        if type(step) is not tuple or len(step) != size:
            return False
        if not all(is_ints(part) and len(part) >= 1 and part[0] >= 1 for part in step):
            return False
    return True


def is_next(part, row, rows):
    """Whether whole times a row is the sum of the parts times the rows."""
    whole, *parts = part
    if len(parts) != len(rows):
        return False
    return [whole * n for n in row] == [sum(p * line[at] for p, line in zip(parts, rows)) for at in range(len(row))]


def is_right_agreement(one, other, paper):
    """Whether a value is a right agreement paper, by the words of the document."""
    if type(paper) is not tuple or len(paper) != 2 or play(one, 0)["result"] != play(other, 0)["result"]:
        return False
    return all(is_right_half(one, other, sign, entries) for sign, entries in zip((1, -1), paper))


def is_right_half(one, other, sign, entries):
    many, more = len(one[1]), len(other[1])
    size = abs(one[0])
    if type(entries) is not tuple:
        return False
    pairs = pairs_by_words(one, other, sign)
    table = {}
    for entry in entries:
        if type(entry) is not tuple or len(entry) != 4:
            return False
        state, beside, rows, steps = entry
        if not is_plain_state(state) or not is_plain_state(beside) or (state, beside) not in pairs:
            return False
        if type(rows) is not tuple or not all(is_ints(row, many + more + 1) for row in rows):
            return False
        if (state, beside) in table or not has_steps(steps, rows, size):
            return False
        table[state, beside] = (rows, steps)
    first_row = (*(first for _, first in one[1]), *(first for _, first in other[1]), 1)
    if pairs[0] not in table or first_row not in table[pairs[0]][0]:
        return False
    return all(is_right_entry(one, other, table, pair) for pair in table)


def is_right_entry(one, other, table, pair):
    many = len(one[1])
    for figure in range(abs(one[0])):
        behind, updates, remainder = next_state(one, pair[0], figure)
        beside, changes, rest = next_state(other, pair[1], figure)
        for row, step in zip(*table[pair]):
            values = values_behind(updates, remainder, row[:many], row[-1])
            others = values_behind(changes, rest, row[many:-1], row[-1])
            if (behind, beside) not in table:
                return False
            if not is_next(step[figure], (*values, *others, row[-1]), table[behind, beside][0]):
                return False
    for figure in range(1, abs(one[0])):
        probes = [values_at_end(parts, state, figure, [0] * len(parts[1]), 1) is None
                  for parts, state in zip((one, other), pair)]
        if probes[0] != probes[1]:
            return False
        for row in table[pair][0] if not probes[0] else ():
            values = values_at_end(one, pair[0], figure, row[:many], row[-1])
            others = values_at_end(other, pair[1], figure, row[many:-1], row[-1])
            if weigh(one[4], [*values, row[-1]]) != weigh(other[4], [*others, row[-1]]):
                return False
    return True


def is_plain_state(value):
    """Whether a value has the form of a state, with no True for 1."""
    return value == () and type(value) is tuple or (
        type(value) is tuple and [type(part) for part in value] == [str, int, int])


def is_right_relation(parts, form, paper, sign):
    """Whether a value is a right relation paper for a relation, by the words of the document."""
    signs = (1, -1) if sign is None else (sign,)
    if type(paper) is not tuple or len(paper) != len(signs):
        return False
    if sign != -1:
        run = play(parts, 0)
        if run["how"] != "endless" and weigh(form, [*run["registers"][-1], 0, 1]) != 0:
            return False
    return all(is_right_reading(parts, form, own, entries) for own, entries in zip(signs, paper))


def is_right_reading(parts, form, own, entries):
    many, size = len(parts[1]), abs(parts[0])
    if type(entries) is not tuple:
        return False
    states = states_by_words(parts, own)
    table = {}
    for entry in entries:
        if type(entry) is not tuple or len(entry) != 3:
            return False
        state, rows, steps = entry
        if not is_plain_state(state) or state not in states or state in table:
            return False
        if type(rows) is not tuple or not all(is_ints(row, many + 3) for row in rows):
            return False
        if not has_steps(steps, rows, size):
            return False
        table[state] = (rows, steps)
    first = (*(value for _, value in parts[1]), 0, own, 1)
    if states[0] not in table or first not in table[states[0]][0]:
        return False
    return all(is_right_place(parts, form, table, state) for state in table)


def is_right_place(parts, form, table, state):
    size = abs(parts[0])
    for row, step in zip(*table[state]):
        *values, number, place, last = row
        for figure in range(size):
            behind, updates, remainder = next_state(parts, state, figure)
            after = values_behind(updates, remainder, values, last)
            wanted = (*after, number + figure * place, place * size, last)
            if behind not in table or not is_next(step[figure], wanted, table[behind][0]):
                return False
        for figure in range(1, size):
            after = values_at_end(parts, state, figure, values, last)
            if after is not None and weigh(form, [*after, number + figure * place, last]) != 0:
                return False
    return True


def states_by_words(parts, sign):
    """The states to which figures lead, found by own rounds."""
    found = [first_state(parts, sign)]
    for state in found:
        for figure in range(abs(parts[0])):
            behind = next_state(parts, state, figure)[0]
            if behind not in found:
                found.append(behind)
    return found


def bent(value, chance):
    """The nested tuples of a paper with something put otherwise somewhere."""
    if type(value) is tuple and value and chance.random() < 0.85:
        at = chance.randrange(len(value))
        return (*value[:at], bent(value[at], chance), *value[at + 1:])
    if type(value) is tuple:
        return bent_tuple(value, chance)
    if type(value) is int:
        return chance.choice([value + 1, value - 1, -value, 2 * value, True, value == 1, None, 0])
    return chance.choice([None, 1, "zz", (), (value,), b"a"])


def bent_tuple(value, chance):
    kind = chance.randrange(8)
    at = chance.randrange(len(value)) if value else 0
    if kind == 0:
        return list(value)
    if kind == 1:
        return value[:at] + value[at + 1:]
    if kind == 2:
        return value[:at + 1] + value[at:]
    if kind == 3:
        return value[::-1]
    if kind == 4:
        return (*value[:at], *value[at + 1:], *value[at:at + 1])
    if kind == 5 and all(type(part) is int for part in value):
        return tuple(3 * part for part in value)
    return chance.choice([None, (), value + (0,), value + ((),), (value,), dict.fromkeys(range(2)), {1, 2}, "text"])


def other_names(parts):
    """The same program with other names, its registers in another order, and one more where there is room."""
    base, registers, modes, ends, result = parts
    names = dict(zip([mode[0] for mode in modes], ["p", "qq", "rrr", "ssss"]))
    order = list(range(len(registers)))[::-1]
    extra = len(registers) < 3
    told = []
    for name, rule, rows in modes:
        fresh = []
        for sign, remainder, updates, then in rows:
            lines = [turn_round(updates[at], order, extra) for at in order]
            lines += [(*[1] * len(order), 2, 1, -3)] if extra else []
            fresh.append((sign, remainder, tuple(lines), names.get(then)))
        told.append((names[name], rule, fresh[::-1]))
    values = [("x" * (at + 1), registers[at][1]) for at in order] + ([("more", 5)] if extra else [])
    return base, values, [told[0], *told[1:][::-1]], ends, turn_round((*result[:-1], 0, result[-1]), order, extra, True)


def turn_round(factors, order, extra, is_result=False):
    """The factors for registers in another order, and for one more if there is one."""
    told = [factors[at] for at in order] + ([0] if extra else [])
    rest = factors[len(order):]
    return (*told, *(rest[1:] if is_result else rest))


def changed_parts(parts, chance):
    """The program with something put otherwise."""
    base, registers, modes, ends, result = parts
    kind = chance.randrange(7)
    at = chance.randrange(len(modes))
    name, rule, rows = modes[at]
    if kind == 0:
        return -base, registers, modes, ends, result
    if kind == 1:
        return base, registers, [*modes[:at], (name, chance.choice(RULES), rows), *modes[at + 1:]], ends, result
    if kind == 2:
        rule = chance.choice(RULES)
        return base, registers, [(name, rule, rows) for name, _, rows in modes], ends, result
    if kind == 3:
        spot = chance.randrange(len(rows))
        row = (*rows[spot][:3], chance.choice([*(mode[0] for mode in modes), None]))
        rows = [*rows[:spot], row, *rows[spot + 1:]]
        return base, registers, [*modes[:at], (name, rule, rows), *modes[at + 1:]], ends, result
    if kind == 4:
        spot = chance.randrange(len(rows))
        sign, remainder, updates, then = rows[spot]
        updates = ((*updates[0][:-1], updates[0][-1] + 1), *updates[1:])
        rows = [*rows[:spot], (sign, remainder, updates, then), *rows[spot + 1:]]
        return base, registers, [*modes[:at], (name, rule, rows), *modes[at + 1:]], ends, result
    if kind == 5:
        return base, registers, modes, sorted({*ends, chance.choice([-1, 0, 1])}), result
    return base, registers, [*modes[at:], *modes[:at]], ends, result


def with_parts(base, mode_names, chance, registers=1, stops=0, small=2, result=None):
    """A program that rests on -1, 0 and 1, so that only its rounds tell."""
    size = abs(base)
    modes = []
    for name in mode_names:
        rows = [(None, None)] + chance.sample([(s, d) for s in (1, -1, None) for d in range(1 - size, size)], 3)
        told = []
        for sign, remainder in rows:
            updates = tuple(tuple(chance.randint(-small, small) for _ in range(registers + 2)) for _ in range(registers))
            told.append((sign, remainder, updates, chance.choice([*mode_names, *[None] * stops])))
        modes.append((name, chance.choice(RULES), told))
    values = [("abc"[at], chance.randint(-3, 3)) for at in range(registers)]
    result = tuple(chance.randint(-2, 2) for _ in range(registers + 1)) if result is None else result
    return base, values, modes, [-1, 0, 1], result
