"""Texts of effects and sets, and the parts that they and commands consist of."""

from leakyqueue.counting import require_effect
from leakyqueue.effects import Effect
from leakyqueue.errors import InvalidCore, InvalidSet, LimitExceeded, ParseError
from leakyqueue.programs import is_program
from leakyqueue.sets import require_set
from leakyqueue.words import is_string_of, is_word

EMPTY = "-"
NO_PATTERNS = "none"
BETWEEN_PATTERNS = " | "
DIGITS = "0123456789"
MAX_DIGITS = 60


def steps_text(steps):
    """Return how a word or a program is written."""
    return EMPTY if steps == "" else steps


def read_steps(part, is_right):
    """Return the word or program that a part of a text denotes, or None if it is not right."""
    if part == EMPTY:
        return ""
    return part if part != "" and is_right(part) else None


def read_word(part):
    """Return the word that a part of a text denotes, or None."""
    return read_steps(part, is_word)


def read_program(part):
    """Return the program that a part of a text denotes, or None."""
    return read_steps(part, is_program)


def read_number(part):
    """Return the number that a part of a text denotes, or None."""
    if part == "" or not is_string_of(part, DIGITS, MAX_DIGITS):
        return None
    return None if part.startswith("0") and part != "0" else int(part)


def effect_text(effect):
    """Return the text of an effect."""
    require_effect(effect)
    return f"{steps_text(effect.takes)} {steps_text(effect.puts)} {effect.core}"


def parse_effect(text):
    """Return the effect that the text denotes."""
    parts = text.split(" ") if isinstance(text, str) else []
    if len(parts) != 3:
        raise ParseError(text)
    taken = read_word(parts[0])
    given = read_word(parts[1])
    core = read_number(parts[2])
    if taken is None or given is None:
        raise ParseError(text)
    try:
        return Effect(taken, given, core)
    except (InvalidCore, LimitExceeded):
        raise ParseError(text) from None


def atom_text(atom):
    """Return how an atom is written."""
    kind, items = atom
    return "{" + items + "}" if kind == "repeat" else items


def pattern_text(pattern):
    """Return how a pattern is written."""
    return " ".join([atom_text(atom) for atom in pattern]) if pattern else EMPTY


def set_text(queues):
    """Return the text of a set."""
    require_set(queues)
    return BETWEEN_PATTERNS.join([pattern_text(pattern) for pattern in queues]) if queues else NO_PATTERNS


def read_atom(part):
    """Return what would be the atom that a part of a text denotes, if its items are right."""
    if part.startswith("{") and part.endswith("}"):
        return ("repeat", part[1:-1])
    return ("optional", part)


def read_pattern(part):
    """Return what would be the pattern that a part of a text denotes, if its atoms are right."""
    return [] if part == EMPTY else [read_atom(atom) for atom in part.split(" ")]


def parse_set(text):
    """Return the set that the text denotes."""
    if not isinstance(text, str):
        raise ParseError(text)
    queues = [] if text == NO_PATTERNS else [read_pattern(part) for part in text.split(BETWEEN_PATTERNS)]
    try:
        require_set(queues)
    except InvalidSet:
        raise ParseError(text) from None
    return queues
