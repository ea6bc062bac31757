"""Point 17, texts: leakyqueue/formats.py."""

import copy
import itertools
import random
import unittest

from leakyqueue.counting import effects_of
from leakyqueue.effects import Effect
from leakyqueue.errors import InvalidEffect, InvalidSet, ParseError
from leakyqueue.formats import effect_text, parse_effect, parse_set, set_text
from plain_sets import random_set, wrong_patterns
from samples import CheckedCase, random_string, strings_of, values_of_other_kinds

A, B, C, ALL_AB = ("optional", "a"), ("optional", "b"), ("optional", "c"), ("repeat", "ab")
CHARACTERS = "abhiABH019-+ |{}_.,\n\tnone"


def plain_effect(text):
    """The values that a text denotes, or None, by the words of the document."""
    parts = text.split(" ")
    if len(parts) != 3:
        return None
    words = ["" if part == "-" else part for part in parts[:2]]
    for part, word in zip(parts, words):
        if part == "" or set(word) - set("abcdefgh") or len(word) > 400:
            return None
    if parts[2] == "" or set(parts[2]) - set("0123456789") or (parts[2][0] == "0" and parts[2] != "0"):
        return None
    core = int(parts[2])
    left = iter(words[1])
    if core > len(words[0]) or not all(item in left for item in words[0][core:]) or len("".join(words)) > 400:
        return None
    return words[0], words[1], core


def plain_set(text):
    """The set that a text denotes, or None, by the words of the document."""
    if text == "none":
        return []
    queues = [plain_pattern(part) for part in text.split(" | ")]
    return None if None in queues or len(queues) > 20 else queues


def plain_pattern(text):
    if text == "-":
        return []
    pattern = []
    for part in text.split(" "):
        items = part[1:-1] if len(part) > 2 and part[0] == "{" and part[-1] == "}" else part
        if items == "" or set(items) - set("abcdefgh") or sorted(set(items)) != list(items):
            return None
        if items == part and len(part) != 1:
            return None
        pattern.append(("optional" if items == part else "repeat", items))
    return pattern if len(pattern) <= 20 else None


def changes(text):
    """The text with one character inserted, replaced or removed."""
    for at in range(len(text) + 1):
        for character in CHARACTERS:
            yield text[:at] + character + text[at:]
            if at < len(text):
                yield text[:at] + character + text[at + 1:]
        if at < len(text):
            yield text[:at] + text[at + 1:]


def no_strings():
    """Values of other kinds, among them what a text could be mistaken for."""
    return values_of_other_kinds() + [
        ["a ab 0"], ("a", "ab", 0), ["a", "ab", "0"], {"a ab 0": 1}, b"a ab 0", b"none", ["none"], [], [[]], [[A]],
    ]


class TextCase(CheckedCase):
    def assert_no_text(self, call, value):
        self.assert_error(ParseError, "value", value, call, value)


class Examples(unittest.TestCase):
    def test_document_example(self):
        self.assertEqual(
            [effect_text(parse_effect('ab - 2')), set_text([[('optional', 'a'), ('repeat', 'bc')], []]),
             parse_set('none'), parse_set('{ab}')],
            ['ab - 2', 'a {bc} | -', [], [[('repeat', 'ab')]]],
        )


class EffectTexts(TextCase):
    def assert_read(self, text):
        """The text is read as what it denotes, or the error has the very value."""
        expected = plain_effect(text)
        if expected is None:
            self.assert_no_text(parse_effect, text)
        else:
            effect = parse_effect(text)
            self.assertEqual(effect, Effect(*expected))
            self.assertEqual(effect_text(effect), text)

    def test_every_form(self):
        self.assertEqual(effect_text(Effect("", "", 0)), "- - 0")
        self.assertEqual(effect_text(Effect("a", "", 1)), "a - 1")
        self.assertEqual(effect_text(Effect("", "a", 0)), "- a 0")
        self.assertEqual(effect_text(Effect("ab", "cab", 0)), "ab cab 0")
        self.assertEqual(effect_text(Effect("a" * 400, "", 400)), "a" * 400 + " - 400")
        self.assertEqual(effect_text(Effect("h" * 12, "h", 11)), "h" * 12 + " h 11")
        self.assertEqual(effect_text(effect=Effect("a", "a", 0)), "a a 0")

    def test_each_text_is_read_back(self):
        for taken in strings_of("ab", 3):
            for given in strings_of("ab", 3):
                for effect in effects_of(taken, given):
                    text = effect_text(effect)
                    self.assertEqual(text, (taken or "-") + " " + (given or "-") + " " + str(effect.core))
                    self.assertEqual(parse_effect(text), effect)
                    self.assertIs(parse_effect(text).__class__, Effect)
        self.assertEqual(parse_effect(text="ab - 2"), Effect("ab", "", 2))

    def test_drawn_effects(self):
        source = random.Random(120)
        for count in range(100):
            taken, given = [random_string(source, source.choice(["ab", "abcdefgh"]), 200) for k in range(2)]
            for effect in effects_of(taken, given)[:3]:
                self.assertEqual(parse_effect(effect_text(effect)), effect)

    def test_one_character_changed(self):
        for text in ["- - 0", "a - 1", "- a 0", "ab ab 0", "ab ab 2", "abba ba 2", "a" * 10 + " - 10", "ba a 1"]:
            self.assert_read(text)
            for other in changes(text):
                self.assert_read(other)

    def test_all_combinations_of_parts(self):
        parts = ["", "-", "a", "b", "ab", "ba", "A", "aB", "--", "0", "1", "2", "00", "01", "-1", "+1", "1a", "i"]
        for chosen in itertools.product(parts, repeat=3):
            self.assert_read(" ".join(chosen))
        for size in [0, 1, 2, 4]:
            for chosen in itertools.product(["-", "a", "0", "1"], repeat=size):
                self.assert_no_text(parse_effect, " ".join(chosen))

    def test_blanks(self):
        for text in [" a a 0", "a a 0 ", "a  a 0", "a a  0", "a a 0\n", "\na a 0", "a\ta\t0", "a a\n0", "a,a,0", "aa0"]:
            self.assert_no_text(parse_effect, text)

    def test_numbers(self):
        for number in ["00", "01", "+1", "-0", "-1", "1.0", "1e0", "0x1", "1_0", " 1", "", "one", "10", "2", "9" * 60]:
            self.assert_no_text(parse_effect, "a a " + number)
        for number in ["1" + "0" * 60, "0" * 60 + "1", "0" * 61, "9" * 3900]:
            self.assert_no_text(parse_effect, "a a " + number)

    def test_cores_that_do_not_fit(self):
        for text in ["a - 0", "a b 0", "ab ba 0", "aa a 0", "- - 1", "a a 2", "ab b 3"]:
            self.assert_no_text(parse_effect, text)

    def test_400_and_401_items(self):
        for text in ["a" * 400 + " - 400", "- " + "a" * 400 + " 0", "a" * 200 + " " + "a" * 200 + " 0"]:
            self.assertEqual(effect_text(parse_effect(text)), text)
        for text in ["a" * 401 + " - 401", "- " + "a" * 401 + " 0", "a" * 200 + " " + "a" * 201 + " 0",
                     "a" * 400 + " a 400"]:
            self.assert_no_text(parse_effect, text)

    def test_values_of_other_kinds(self):
        for value in no_strings():
            with self.subTest(value=value):
                self.assert_no_text(parse_effect, value)
        for value in no_strings() + ["", "a a 0"]:
            if not isinstance(value, Effect):
                self.assert_error(InvalidEffect, "index", None, effect_text, value)


class SetTexts(TextCase):
    def assert_read(self, text):
        """The text is read as what it denotes, or the error has the very value."""
        expected = plain_set(text)
        if expected is None:
            self.assert_no_text(parse_set, text)
        else:
            self.assertEqual(parse_set(text), expected)
            self.assertEqual(set_text(expected), text)

    def test_every_form(self):
        for queues, text in [
            ([], "none"), ([[]], "-"), ([[], []], "- | -"), ([[A]], "a"), ([[ALL_AB]], "{ab}"), ([[A, B]], "a b"),
            ([[A], [B]], "a | b"), ([[A, ALL_AB, C], [], [B]], "a {ab} c | - | b"),
            ([[("repeat", "abcdefgh")]], "{abcdefgh}"), ([[("repeat", "h")]], "{h}"), ([[A, A], [A, A]], "a a | a a"),
        ]:
            before = copy.deepcopy(queues)
            self.assert_same(text, set_text(queues))
            self.assertEqual(queues, before)
            self.assertEqual(parse_set(text), queues)
        self.assertEqual(set_text(queues=[[A]]), "a")
        self.assertEqual(parse_set(text="a"), [[A]])

    def test_kinds_of_values(self):
        queues = parse_set("a {ab} | -")
        self.assertEqual([queues.__class__, queues[0].__class__, queues[0][0].__class__], [list, list, tuple])

    def test_each_text_is_read_back(self):
        source = random.Random(121)
        for count in range(400):
            queues = random_set(source, source.choice(["ab", "abcdefgh"]), 20, 20)
            self.assertEqual(parse_set(set_text(queues)), queues)

    def test_every_atom(self):
        for item in "abcdefgh":
            self.assertEqual(parse_set(item), [[("optional", item)]])
        for length in range(1, 9):
            for items in itertools.combinations("abcdefgh", length):
                self.assertEqual(parse_set("{" + "".join(items) + "}"), [[("repeat", "".join(items))]])

    def test_one_character_changed(self):
        for text in ["none", "-", "a", "{ab}", "a b", "a | b", "- | -", "a {bc} | -", "{a} {bh} h | {b} | a"]:
            self.assert_read(text)
            for other in changes(text):
                self.assert_read(other)

    def test_all_combinations_of_parts(self):
        parts = ["", "-", "a", "b", "{ab}", "{}", "{", "}", "|", "none", "ab", "{ba}"]
        for size in range(4):
            for chosen in itertools.product(parts, repeat=size):
                self.assert_read(" ".join(chosen))

    def test_wrong_texts(self):
        for text in [
            "", " ", "|", " | ", "a|b", "a |b", "a| b", "a  b", " a", "a ", "a |  | b", "a | | b", "| a", "a |", "a | ",
            "none | a", "a | none", "none none", "None", "NONE", "none ", " none", "- -", "- a", "a -", "{}", "{ ab}",
            "{ab }", "{a b}", "{ba}", "{aa}", "{aba}", "{ab", "ab}", "{{ab}}", "{a}{b}", "a{b}", "{a}b", "ab", "A", "i",
            "{A}", "{ai}", "()", "[a]", "a,b", "a\n", "\na", "a\tb", "a\n|\nb", "{-}", "{|}", "a || b", "0", "{0}",
        ]:
            with self.subTest(text=text):
                self.assert_no_text(parse_set, text)

    def test_20_and_21_patterns(self):
        for pattern in ["-", "a", "{ab} c"]:
            text = " | ".join([pattern] * 20)
            self.assertEqual(set_text(parse_set(text)), text)
            self.assertEqual(len(parse_set(text)), 20)
            self.assert_no_text(parse_set, text + " | " + pattern)

    def test_20_and_21_atoms(self):
        for atom in ["a", "{abcdefgh}"]:
            text = " ".join([atom] * 20)
            self.assertEqual(set_text(parse_set(text)), text)
            self.assert_no_text(parse_set, text + " " + atom)
            self.assert_no_text(parse_set, "a | " + text + " " + atom)
        longest = " | ".join([" ".join(["{abcdefgh}"] * 20)] * 17)
        self.assertEqual(set_text(parse_set(longest)), longest)

    def test_every_list_is_new(self):
        queues = parse_set("a | b")
        queues[0].append(C)
        queues.append([])
        self.assertEqual(parse_set("a | b"), [[A], [B]])
        parse_set("none").append([])
        self.assertEqual(parse_set("none"), [])

    def test_values_of_other_kinds(self):
        for value in no_strings():
            with self.subTest(value=value):
                self.assert_no_text(parse_set, value)

    def test_wrong_sets(self):
        for value in [value for value in values_of_other_kinds() if not isinstance(value, list)] + ["none", [[]] * 21]:
            with self.subTest(value=value):
                self.assert_error(InvalidSet, "index", None, set_text, value)
        for pattern in wrong_patterns():
            with self.subTest(pattern=pattern):
                self.assert_error(InvalidSet, "index", 0, set_text, [pattern])
                self.assert_error(InvalidSet, "index", 2, set_text, [[], [A], pattern, None])


if __name__ == "__main__":
    unittest.main()
