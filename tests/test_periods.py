"""Tests of periods, twins and sharp words: [3.1], [3.2], [0.2] (d) and (e), with [0.3] and [0.5]."""

import inspect
import itertools
import math
import unittest

import borderrow.periods
from borderrow.periods import periods, sharp, twin
from said import LETTERS, all_words, borders, grown, is_period, long_words, many_words, powers
from said import said_borders, said_periods

# A word, and its periods.
KNOWN = [
    ("", ()),
    ("a", (1,)),
    ("z", (1,)),
    ("aa", (1, 2)),
    ("ab", (2,)),
    ("aba", (2, 3)),
    ("abb", (3,)),
    ("abab", (2, 4)),
    ("aaaa", (1, 2, 3, 4)),
    ("aabaa", (3, 4, 5)),
    ("abaab", (3, 5)),
    ("abcab", (3, 5)),
    ("abcabcab", (3, 6, 8)),
    ("abacaba", (4, 6, 7)),
    ("abcdef", (6,)),
    ("aabaabaaa", (7, 8, 9)),
    ("mississippi", (11,)),
    ("abracadabra", (7, 10, 11)),
]

PAIRS = [(one, other) for one in range(2, 10) for other in range(2, 10) if one % other and other % one]


def least_words(length):
    """A word of each row of borders there is, so words of all sets of periods there are."""
    words = [""]
    for step in range(length):
        words = list({said_borders(word): word for word in grown(words)}.values())
    return words


def reach(one, other):
    """The least length at which both periods leave the greatest number that divides both as one."""
    return one + other - math.gcd(one, other)


class Periods(unittest.TestCase):
    def test_known_periods(self):
        for word, told in KNOWN:
            self.assertEqual(periods(word), told, word)

    def test_forty_letters(self):
        for word, told in [("a" * 40, tuple(range(1, 41))), ("ab" * 20, tuple(range(2, 41, 2))),
                           ("a" * 39 + "b", (40,)), ("b" + "a" * 39, (40,)), (LETTERS + LETTERS[:14], (26, 40)),
                           (LETTERS[:20] * 2, (20, 40)), ("abc" * 13 + "a", tuple(range(3, 40, 3)) + (40,)),
                           ("a" * 19 + "b" + "a" * 20, tuple(range(21, 41)))]:
            self.assertEqual((len(word), periods(word)), (40, told), word)

    def test_all_words_of_few_letters(self):
        for word in many_words():
            self.assertEqual(periods(word), said_periods(word), word)

    def test_long_words(self):
        for word in long_words() + powers():
            self.assertEqual(periods(word), said_periods(word), word)

    def test_a_period_and_a_border_are_the_length_together(self):
        for word in many_words():
            self.assertEqual(periods(word), tuple(sorted([len(word) - border for border in borders(word)])), word)


class Twins(unittest.TestCase):
    def check(self, word):
        told = twin(word)
        self.assertIs(type(told), str)
        self.assertEqual(len(told), len(word), word)
        self.assertLessEqual(set(told), {"a", "b"}, word)
        self.assertEqual(said_periods(told), said_periods(word), word)

    def test_known_words(self):
        for word, told in KNOWN:
            self.check(word)

    def test_the_empty_word_and_one_letter(self):
        self.assertEqual(twin(""), "")
        for letter in LETTERS:
            self.assertIn(twin(letter), ["a", "b"])

    def test_all_words_of_few_letters(self):
        for word in many_words():
            self.check(word)

    def test_all_sets_of_periods(self):
        for length in range(12):
            for word in least_words(length):
                self.check(word)

    def test_eleven_letters(self):
        for word in ["a" * 11, "z" * 11, "abcdefghijk", "abcabcabcab", "abacabadaba", "abcdeabcdea", "xyxzxyxwxyx",
                     "aabaacaabaa", "abcdedcbabc", "zzzzzyzzzzz", "abababacaba", "qqqqqqqqqqr", "rqqqqqqqqqq"]:
            self.assertEqual(len(word), 11)
            self.check(word)

    def test_somewhat_longer_words(self):
        for word in ["abcabcabcabc", "abacabadabac", "abcdefghijklm", "xyxzxyxwxyxzxy", "aaaaaaaaaaaaaa"]:
            self.check(word)
        for word in long_words():
            self.check(word)


class ThirdPeriods(unittest.TestCase):
    def check(self, word):
        told = periods(word)
        for one, other in itertools.combinations(told, 2):
            if reach(one, other) <= len(word):
                self.assertIn(math.gcd(one, other), told, word)

    def test_all_words_of_few_letters(self):
        for word in many_words():
            self.check(word)

    def test_long_words(self):
        for word in long_words() + powers():
            self.check(word)


class Sharp(unittest.TestCase):
    def check(self, one, other):
        word = sharp(one, other)
        self.assertIs(type(word), str)
        self.assertLessEqual(set(word), set(LETTERS))
        self.assertEqual(len(word), reach(one, other) - 1, (one, other))
        for number in [one, other]:
            self.assertTrue(is_period(word, number), (one, other))
            self.assertIn(number, periods(word), (one, other))
        self.assertFalse(is_period(word, math.gcd(one, other)), (one, other))
        self.assertNotIn(math.gcd(one, other), periods(word), (one, other))

    def test_every_pair(self):
        self.assertEqual(len(PAIRS), 44)
        for one, other in PAIRS:
            self.check(one, other)

    def test_the_told_word_is_as_long_as_any_such(self):
        for one, other in [pair for pair in PAIRS if reach(*pair) <= 9]:
            for word in all_words("abc", reach(one, other)):
                if len(word) == reach(one, other) and is_period(word, one) and is_period(word, other):
                    self.assertTrue(is_period(word, math.gcd(one, other)), word)

    def test_somewhat_greater_numbers(self):
        for one, other in [(10, 4), (4, 10), (10, 15), (11, 2), (9, 10), (12, 9), (13, 12), (12, 18)]:
            self.check(one, other)


class KindsAndForm(unittest.TestCase):
    def test_kinds(self):
        for word, told in KNOWN:
            self.assertIs(type(periods(word)), tuple)
            for number in periods(word):
                self.assertIs(type(number), int)

    def test_asked_again_the_same_is_told(self):
        words = [word for word, told in KNOWN]
        first = [(periods(word), twin(word)) for word in words]
        self.assertEqual([(periods(word), twin(word)) for word in reversed(words)], first[::-1])
        first = [sharp(one, other) for one, other in PAIRS]
        self.assertEqual([sharp(one, other) for one, other in reversed(PAIRS)], first[::-1])

    def test_names_and_arguments(self):
        for name, arguments in [("periods", ["word"]), ("twin", ["word"]), ("sharp", ["one", "other"])]:
            function = getattr(borderrow.periods, name)
            self.assertEqual(list(inspect.signature(function).parameters), arguments)


if __name__ == "__main__":
    unittest.main()
