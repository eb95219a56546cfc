"""What values must be that are handed in, and what the parts of a program must be."""

from twodivisions.errors import InvalidBase, InvalidEnds, InvalidModes, InvalidRegisters, InvalidResult, InvalidRow

RULES = ("down", "up", "zero", "positive", "near")
LETTERS = "abcdefghijklmnopqrstuvwxyz"
LARGEST = 1000000


def is_integer(value):
    """Whether a value is an integer; True and False are none."""
    return isinstance(value, int) and not isinstance(value, bool)


def is_between(value, low, high):
    """Whether a value is an integer from low to high."""
    return is_integer(value) and low <= value <= high


def is_rule(value):
    """Whether a value is one of the five rules of division."""
    return isinstance(value, str) and value in RULES


def is_sign(value):
    """Whether a value is 1 or -1."""
    return is_between(value, -1, 1) and value != 0


def is_base(value):
    """Whether a value is a base."""
    return is_between(value, -10, 10) and abs(value) >= 2


def is_remainder(value, size):
    """Whether a value can be a remainder, or an end, for a base of this size."""
    return is_between(value, 1 - size, size - 1)


def is_name(value):
    """Whether a value is a name."""
    if not isinstance(value, str):
        return False
    return 1 <= len(value) <= 8 and all([letter in LETTERS for letter in value])


def is_decimal(word, most):
    """Whether a word is an integer in at most so many digits, written in the only way."""
    digits = word.removeprefix("-")
    if not (digits.isascii() and digits.isdigit() and len(digits) <= most):
        return False
    return word == "0" or digits[0] != "0"


def is_listing(value, least, most):
    """Whether a value is a list or tuple with so many elements."""
    return isinstance(value, (list, tuple)) and least <= len(value) <= most


def is_factors(value, many):
    """Whether a value is a tuple of so many integers that a program can have."""
    if not (isinstance(value, tuple) and len(value) == many):
        return False
    return all([is_between(factor, -LARGEST, LARGEST) for factor in value])


def is_register(value):
    """Whether a value is a tuple of a name and a first value."""
    return isinstance(value, tuple) and len(value) == 2 and is_name(value[0]) and is_factors(value[1:], 1)


def is_mode(value):
    """Whether a value is a tuple of a name, a rule, and a list or tuple, whatever is in it."""
    if not (isinstance(value, tuple) and len(value) == 3):
        return False
    name, rule, rows = value
    return is_name(name) and is_rule(rule) and isinstance(rows, (list, tuple))


def is_row(value, size, many, names):
    """Whether a value is a row, for a size, so many registers, and modes of these names."""
    if not (isinstance(value, tuple) and len(value) == 4):
        return False
    sign, remainder, updates, then = value
    if not ((sign is None or is_between(sign, -1, 1)) and (remainder is None or is_remainder(remainder, size))):
        return False
    if not (isinstance(updates, tuple) and len(updates) == many):
        return False
    if not all([is_factors(update, many + 2) for update in updates]):
        return False
    return then is None or isinstance(then, str) and then in names


def first_wrong(parts, is_part):
    """The index of the first part that is none, or has the name of one ahead, or None."""
    names = []
    for at, part in enumerate(parts):
        if not is_part(part) or part[0] in names:
            return at
        names.append(part[0])
    return None


def check_registers(registers):
    """Refuse what cannot be the registers of a program."""
    if not is_listing(registers, 1, 3):
        raise InvalidRegisters(None)
    wrong = first_wrong(registers, is_register)
    if wrong is not None:
        raise InvalidRegisters(wrong)


def check_modes(modes):
    """Refuse what cannot be the modes of a program, whatever their rows are."""
    if not is_listing(modes, 1, 4):
        raise InvalidModes(None)
    wrong = first_wrong(modes, is_mode)
    if wrong is not None:
        raise InvalidModes(wrong)


def check_rows(mode, rows, size, many, names):
    """Refuse what cannot be the rows of a mode."""
    keys = []
    for at, row in enumerate(rows):
        if not is_row(row, size, many, names) or row[:2] in keys:
            raise InvalidRow(mode, at)
        keys.append(row[:2])
    if (None, None) not in keys:
        raise InvalidRow(mode, len(rows))


def check_ends(ends, size):
    """Refuse what cannot be the ends of a program."""
    if not isinstance(ends, (list, tuple)) or not all([is_remainder(end, size) for end in ends]):
        raise InvalidEnds(ends)
    for at in range(1, len(ends)):
        if ends[at - 1] >= ends[at]:
            raise InvalidEnds(ends)


def check_program(base, registers, modes, ends, result):
    """Refuse the first of the parts that no program can have."""
    if not is_base(base):
        raise InvalidBase(base)
    size = abs(base)
    check_registers(registers)
    check_modes(modes)
    names = [mode[0] for mode in modes]
    for name, _, rows in modes:
        check_rows(name, rows, size, len(registers), names)
    check_ends(ends, size)
    if not is_factors(result, len(registers) + 1):
        raise InvalidResult(result)
