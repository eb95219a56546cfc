"""Books that are read from journals."""

from twodivisions.books import Book
from twodivisions.checks import is_decimal
from twodivisions.errors import (
    Guarded, InvalidBase, InvalidCommand, InvalidEnds, InvalidForm, InvalidModes, InvalidName, InvalidRegisters,
    InvalidResult, InvalidRow, InvalidText, NothingToRedo, NothingToUndo, NoTrial, UnknownName,
)
from twodivisions.journals import closed_text
from twodivisions.texts import parse_program

SIGNS = {"+": 1, "-": -1, "*": None}
# How many words a guard of a kind has ahead of the integers of its form.
WORDS = {"alike": 4, "relation": 3, "ends": 3}
MOST_DIGITS = 4000
# More lines than the text of a program has.
MOST_LINES_DIGITS = 6


def guard_of(words):
    """The guard that is written by some words, or None."""
    if words == [] or words[0] not in WORDS or len(words) < WORDS[words[0]]:
        return None
    kind = words[0]
    head = words[:WORDS[kind]]
    rest = words[WORDS[kind]:]
    if head[-1] not in SIGNS or kind != "relation" and rest != []:
        return None
    if not all([is_decimal(word, MOST_DIGITS) for word in rest]):
        return None
    form = [tuple([int(word) for word in rest])] if kind == "relation" else []
    return (*head[:-1], *form, SIGNS[head[-1]])


def add_guard(book, words):
    """Add the guard that is written by some words; whether that is a deed."""
    guard = guard_of(words)
    if guard is None or guard in book.guards():
        return False
    *told, sign = guard
    book.guard(*told, sign=sign)
    return True


def put(book, words, lines):
    """Set the program of some lines; whether that is a deed."""
    name, many = words
    if many != str(len(lines)):
        return False
    book.set_program(name, parse_program("\n".join(lines)))
    return True


def do_plain(book, word):
    """Do a deed of a single word; whether it is one."""
    if word == "undo":
        book.undo()
    elif word == "redo":
        book.redo()
    elif word == "begin":
        book.begin()
    elif word == "keep":
        book.keep()
    elif word == "back":
        book.take_back()
    else:
        return False
    return True


def do_deed(book, words, lines):
    """Do the deed that is written by some words and the lines behind them; whether it is one."""
    first, *rest = words
    if first == "put" and len(rest) == 2:
        return put(book, rest, lines)
    if first == "remove" and len(rest) == 1:
        book.remove(rest[0])
        return True
    if first == "guard":
        return add_guard(book, rest)
    if first == "unguard":
        # No guard of the book is None.
        book.unguard(guard_of(rest))
        return True
    return rest == [] and do_plain(book, first)


def lines_behind(words):
    """How many lines of a program a deed has behind its words."""
    if len(words) == 3 and words[0] == "put" and is_decimal(words[2], MOST_LINES_DIGITS):
        return int(words[2])
    return 0


def is_done(book, words, lines):
    """Whether a book accepts what is written as a deed; it is done then."""
    try:
        return do_deed(book, words, lines)
    except (InvalidText, InvalidBase, InvalidRegisters, InvalidModes, InvalidRow, InvalidEnds, InvalidResult):
        return False
    except (InvalidName, InvalidCommand, InvalidForm, UnknownName, Guarded):
        return False
    except (NothingToUndo, NothingToRedo, NoTrial):
        return False


def read_journal(text):
    """A book with the journal that the text is."""
    if not isinstance(text, str):
        raise InvalidText(None)
    lines = text.split("\n")
    deeds = lines[:-1]
    if text != closed_text(deeds):
        raise InvalidText(len(deeds))
    book = Book()
    at = 0
    while at < len(deeds):
        words = deeds[at].split(" ")
        end = at + 1 + lines_behind(words)
        if not is_done(book, words, deeds[at + 1:end]):
            raise InvalidText(at)
        at = end
    return book
