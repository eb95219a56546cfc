"""Texts of programs."""

SIGNS = {-1: "-", 0: "0", 1: "+", None: "*"}


def line_of(word, integers):
    """A line of a word and integers, perhaps none."""
    return " ".join([word, *[str(integer) for integer in integers]])


def row_line(row):
    """The line of a row."""
    sign, remainder, updates, then = row
    rest = "*" if remainder is None else remainder
    target = "." if then is None else then
    return line_of(f"row {SIGNS[sign]} {rest} {target}", [factor for update in updates for factor in update])


def format_program(program):
    """The text of a program, from which parse_program reads an equal one."""
    lines = [f"base {program.base}"]
    lines.extend([f"register {name} {first}" for name, first in program.registers()])
    for mode in program.modes():
        lines.append(f"mode {mode} {program.rule_of(mode)}")
        lines.extend([row_line(row) for row in program.rows_of(mode)])
    lines.append(line_of("ends", program.ends))
    lines.append(line_of("result", program.result))
    return "\n".join(lines)
