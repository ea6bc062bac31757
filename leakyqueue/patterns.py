"""Patterns: lists of atoms that denote words, here with any number of atoms."""

from leakyqueue.words import ITEMS, embeds

MAX_ATOMS = 20


def is_atom(value):
    """Return whether the value is an atom."""
    if not isinstance(value, tuple) or len(value) != 2:
        return False
    kind, items = value
    # Different items in alphabetical order are a subsequence of all items.
    if not isinstance(items, str) or items == "" or not embeds(items, ITEMS):
        return False
    return kind == "repeat" or kind == "optional" and len(items) == 1


def is_pattern(value):
    """Return whether the value is a pattern within the limit."""
    return isinstance(value, list) and len(value) <= MAX_ATOMS and all([is_atom(atom) for atom in value])


def denotes(pattern, word):
    """Return whether the pattern denotes the word."""
    rest = word
    # Each atom gets as much as it can. What is left then is the end of what would be left otherwise, and the later
    # atoms denote the ends of all their words too.
    for kind, items in pattern:
        rest = rest.lstrip(items) if kind == "repeat" else rest.removeprefix(items)
    return rest == ""


def absorbs(atom, other):
    """Return whether an atom denotes all words of another one, however often these are repeated."""
    return atom[0] == "repeat" and embeds(other[1], atom[1])


def covers(pattern, other):
    """Return whether the pattern denotes all words of the other one."""
    place = 0
    for atom in other:
        while place < len(pattern) and pattern[place] != atom and not absorbs(pattern[place], atom):
            place += 1
        if place == len(pattern):
            return False
        if pattern[place][0] == "optional":
            place += 1
    return True


def normal_pattern(pattern):
    """Return the pattern without superfluous atoms."""
    normal = []
    for atom in pattern:
        while normal and absorbs(atom, normal[-1]):
            normal.pop()
        if not normal or not absorbs(normal[-1], atom):
            normal.append(atom)
    return normal


def full_word(pattern, rounds):
    """Return a word of the pattern with each optional item, and the items of each repeat so many times.

    If there are more rounds than another pattern has atoms, and this one denotes the word, it covers the pattern:
    among so many rounds an atom of it gets all items of the repeat.
    """
    return "".join([items * rounds if kind == "repeat" else items for kind, items in pattern])


def after_take(pattern, item):
    """Return the pattern of what can be left when the item was taken, or None if it cannot be taken."""
    for place, (kind, items) in enumerate(pattern):
        if item in items:
            return pattern[place:] if kind == "repeat" else pattern[place + 1:]
    return None


def after_program(pattern, program):
    """Return the pattern of the possible results of a program, or None if it always fails."""
    result = pattern
    for step in program:
        if step.islower():
            result = result + [("optional", step)]
        else:
            result = after_take(result, step.lower())
            if result is None:
                return None
    return result
