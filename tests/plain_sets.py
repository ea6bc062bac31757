"""Plain searches over the parts of words, against which sets of queues are compared."""

import random

from plain import plain_result, subsequences
from samples import random_string


def places_after(pattern, places, item):
    """The atoms that can be reached from these ones with one more item; every one may be the last one."""
    return {
        at + (kind == "optional")
        for place in places
        for at, (kind, items) in enumerate(pattern)
        if at >= place and item in items
    }


def plain_contains(queues, word):
    """Whether the word can be cut into parts for the atoms of a pattern."""
    for pattern in queues:
        places = {0}
        for item in word:
            places = places_after(pattern, places, item)
        if places:
            return True
    return False


def all_places(queues, before, item):
    return tuple([frozenset(places_after(pattern, places, item)) for pattern, places in zip(queues, before)])


def plain_missing(first, second, letters):
    """A shortest word of the second set that the first one does not contain, or None: all words are tried at once."""
    start = (tuple([frozenset([0])] * len(first)), tuple([frozenset([0])] * len(second)))
    found = {start: ""}
    layer = [start]
    while layer:
        longer = []
        for ours, theirs in layer:
            if any(theirs) and not any(ours):
                return found[(ours, theirs)]
            for item in letters:
                after = (all_places(first, ours, item), all_places(second, theirs, item))
                if after not in found:
                    found[after] = found[(ours, theirs)] + item
                    longer.append(after)
        layer = longer
    return None


def is_superfluous(pattern, at):
    """Whether the atom is superfluous beside a neighbour, in the words of the document."""
    kind, items = pattern[at]
    for beside in [at - 1, at + 1]:
        if 0 <= beside < len(pattern):
            other_kind, other_items = pattern[beside]
            if other_kind == "repeat" and set(items) <= set(other_items):
                return True
    return False


def plain_normal(source, pattern):
    """The pattern without superfluous atoms, removed one at a time in any order."""
    normal = list(pattern)
    while True:
        superfluous = [at for at in range(len(normal)) if is_superfluous(normal, at)]
        if not superfluous:
            return normal
        del normal[source.choice(superfluous)]


def plain_normal_set(queues, letters):
    """The normal patterns that remain, by the words of the document."""
    source = random.Random(len(queues))
    normal = [plain_normal(source, pattern) for pattern in queues]
    kept = []
    for index, pattern in enumerate(normal):
        covered = False
        for at, other in enumerate(normal):
            if at != index and plain_missing([other], [pattern], letters) is None:
                same = plain_missing([pattern], [other], letters) is None
                covered = covered or not same or at < index
        if not covered:
            kept.append(pattern)
    return kept


def results_on(words, program):
    """All possible results on these words."""
    best = [plain_result(program, word) for word in words]
    return set().union(*[subsequences(word) for word in best if word is not None])


def random_atom(source, letters):
    if source.randrange(2):
        return ("optional", source.choice(letters))
    return ("repeat", "".join(sorted(set(random_string(source, letters, 3) + source.choice(letters)))))


def random_pattern(source, letters, longest):
    return [random_atom(source, letters) for k in range(source.randint(0, longest))]


def random_set(source, letters, most, longest):
    return [random_pattern(source, letters, longest) for k in range(source.randint(0, most))]


def all_atoms(letters):
    """All atoms with one or two of these letters."""
    optional = [("optional", item) for item in letters]
    return optional + [("repeat", item) for item in letters] + [("repeat", letters[:2])]


def wrong_atoms():
    """Values of each form that is no atom."""
    return [
        ("optional",), ("optional", "a", "a"), ("optional", ""), ("optional", "ab"), ("optional", "A"), ("optional", "i"),
        ("optional", " "), ("optional", None), ("optional", 0), ("optional", b"a"), ("optional", ["a"]),
        ("optional", ("a",)), ["optional", "a"], "optional", "a", ("Optional", "a"), ("option", "a"), ("", "a"),
        ("repeat",), ("repeat", ""), ("repeat", "ba"), ("repeat", "aa"), ("repeat", "aba"), ("repeat", "aB"),
        ("repeat", "hi"), ("repeat", "a b"), ("repeat", "abcdefgha"), ("repeat", None), ("repeat", 1),
        ("repeat", b"ab"), ("repeat", ["a", "b"]), ("repeat", ("a", "b")), ("repeat", "ab", "ab"), ["repeat", "ab"],
        ("a", "optional"), ("ab", "repeat"), (None, "a"), (b"optional", "a"), (["optional"], "a"), (True, "a"), (),
        None, True, False, 0, 1, [], {}, {"optional": "a"}, ("optional", "a" * 4000), ("repeat", "a" * 4000),
    ]


def wrong_patterns():
    """Values of each form that is no pattern."""
    fitting = ("optional", "a")
    patterns = [[atom] for atom in wrong_atoms()]
    patterns += [[fitting, atom] for atom in wrong_atoms()] + [[atom, fitting] for atom in wrong_atoms()]
    others = [fitting, (fitting,), "", "a", "-", None, True, False, 0, 1, {}, {"optional": "a"}, b"", ()]
    return patterns + others + [[fitting] * 21, [("repeat", "ab")] * 21, [fitting] * 400]
