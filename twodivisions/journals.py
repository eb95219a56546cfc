"""The lines of journals: what is written of the deeds of a book."""

from twodivisions.printing import format_program, line_of

SIGNS = {1: "+", -1: "-", None: "*"}
MODULUS = 65521


def check_number(text):
    """The number that stands at the end of a journal: from each character of the text and the number so far."""
    check = 0
    for letter in text:
        check = (check * 257 + ord(letter)) % MODULUS
    return check


def put_lines(name, program):
    """The lines of a program that is set."""
    text = format_program(program)
    many = text.count("\n") + 1
    return f"put {name} {many}\n{text}"


def guard_words(guard):
    """The words of a guard."""
    if guard[0] == "relation":
        kind, name, form, sign = guard
        return line_of(f"{kind} {name} {SIGNS[sign]}", form)
    *words, sign = guard
    return " ".join([*words, SIGNS[sign]])


def closed_text(deeds):
    """The journal of some deeds: their lines, and the last line."""
    text = "".join([f"{deed}\n" for deed in deeds])
    return f"{text}end {check_number(text)}"
