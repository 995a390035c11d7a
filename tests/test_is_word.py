"""Tests of is_word: [1.1], with [0.3] and [0.4]."""

import copy
import sys
import unittest

from borderrow.rows import is_word

LETTERS = "abcdefghijklmnopqrstuvwxyz"

# One sign each that is no letter a to z, or a sign that looks like one.
NO_LETTERS = [
    "A", "M", "Z", "0", "5", "9", " ", "`", "{", "@", "[", "_", "-", ".", "'", "\\", "~", "\0", "\x7f",
    "\n", "\r", "\r\n", "\t", "\v", "\f", "\x85", "\u2028", "\u2029", "\xa0", "\u200b",
    "\xe4", "\xdf", "\xe9", "\xaa", "\xb5", "\u0131", "\u017f", "\u0430", "\u03b1", "\uff41", "\ufb01", "a\u0301",
    "\u212a", "\u0660", "\U0001d41a", "\ud800",
]


def deep(inner, depth, wrap):
    for step in range(depth):
        inner = wrap(inner)
    return inner


def in_list(thing):
    return [thing]


def in_tuple(thing):
    return (thing,)


def among_others(thing):
    return [1, (True, thing), None, "abc"]


class IsWord(unittest.TestCase):
    def check(self, thing, told):
        # A truth itself is asked for, so 1 and 0 would not do.
        self.assertIs(is_word(thing), told, repr(thing))

    def test_ordinary_words(self):
        for word in ["a", "z", "ab", "aa", "abaab", "border", "abcabcabc", "zyxwvu", "mississippi"]:
            self.check(word, True)

    def test_every_letter_is_one_at_every_place(self):
        for letter in LETTERS:
            self.check(letter, True)
            self.check(letter * 14, True)
            self.check("m" + letter + "m", True)

    def test_empty_word(self):
        self.check("", True)

    def test_lengths(self):
        for length in range(15):
            self.check("a" * length, True)
            self.check(LETTERS[:length], True)
        for length in [15, 16, 17, 26, 40, 1000]:
            self.check("a" * length, False)
        self.check(LETTERS[:15], False)
        self.check(LETTERS[:16], False)

    def test_every_text_of_one_sign(self):
        words = [chr(code) for code in range(sys.maxunicode + 1) if is_word(chr(code))]
        self.assertEqual(words, list(LETTERS))

    def test_a_sign_that_is_no_letter_at_any_place(self):
        for sign in NO_LETTERS:
            self.check(sign, False)
            for text in [sign + "bc", "a" + sign + "c", "ab" + sign, sign * 2]:
                self.check(text, False)

    def test_a_sign_that_is_no_letter_in_a_text_of_fourteen(self):
        for sign in ["A", "0", " ", "`", "{", "\n", "\xe4"]:
            for place in range(14):
                self.check("a" * place + sign + "a" * (13 - place), False)

    def test_a_line_end_makes_no_fifteenth_letter(self):
        self.check("a" * 14 + "\n", False)
        self.check("a" * 13 + "\n", False)

    def test_whole_numbers_truths_and_none(self):
        for thing in [0, 1, -1, 7, 14, 97, 122, 10 ** 50, -(10 ** 50), True, False, None]:
            self.check(thing, False)

    def test_lists_and_tuples(self):
        for thing in [[], (), ["a"], ("a",), ["a", "b"], ("a", "b"), [""], ("",), [[]], ((),), [()], ([],),
                      [0], (None,), [True, "abc"], list("border"), tuple("border"), ["abc", ("ab", [1, None])]]:
            self.check(thing, False)

    def test_thirty_deep(self):
        for wrap in [in_list, in_tuple, among_others]:
            for inner in ["abc", "", 1, True, None, [], ()]:
                for depth in [1, 2, 29, 30, 31, 35]:
                    self.check(deep(inner, depth, wrap), False)

    def test_a_list_is_not_changed(self):
        for thing in [[], ["a", "b"], [1, [True, ["abc"]], (None, ["z"])], deep("abc", 30, in_list),
                      deep("abc", 30, among_others)]:
            before = copy.deepcopy(thing)
            self.check(thing, False)
            self.assertEqual(thing, before)
            self.assertEqual(repr(thing), repr(before))

    def test_asked_again_the_same_is_told(self):
        things = ["abc", "Abc", "", 1, True, None, [], ["abc"], ("abc",), "a" * 14, "a" * 15, 0, False, "abc"]
        first = [is_word(thing) for thing in things]
        self.assertEqual([is_word(thing) for thing in things], first)
        self.assertEqual([is_word(thing) for thing in reversed(things)], first[::-1])


if __name__ == "__main__":
    unittest.main()
