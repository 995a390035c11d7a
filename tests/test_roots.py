"""Tests of roots: [4.1], [0.2] (f), with [0.3]."""

import inspect
import unittest

import borderrow.roots
from borderrow.roots import often, root
from said import LETTERS, all_words, long_words, many_words, powers, said_root

# A word, its root, and how often.
KNOWN = [
    ("a", "a", 1),
    ("z", "z", 1),
    ("aa", "a", 2),
    ("ab", "ab", 1),
    ("aba", "aba", 1),
    ("abab", "ab", 2),
    ("aaaaaa", "a", 6),
    ("ababa", "ababa", 1),
    ("ababab", "ab", 3),
    ("aabaab", "aab", 2),
    ("aabaa", "aabaa", 1),
    ("abaaba", "aba", 2),
    ("abaabaab", "abaabaab", 1),
    ("abababababab", "ab", 6),
    ("abcabcabcabc", "abc", 4),
    ("aabbaabbaabb", "aabb", 3),
    ("abcdefabcdef", "abcdef", 2),
    ("mississippi", "mississippi", 1),
]

# Words of 40 letters.
KNOWN_LONG = [
    ("a" * 40, "a", 40),
    ("ab" * 20, "ab", 20),
    ("aaab" * 10, "aaab", 10),
    ("abcde" * 8, "abcde", 8),
    ("abababac" * 5, "abababac", 5),
    ("aaaaaaaaab" * 4, "aaaaaaaaab", 4),
    (LETTERS[:20] * 2, LETTERS[:20], 2),
    ("a" * 39 + "b", "a" * 39 + "b", 1),
    ("abc" * 13 + "a", "abc" * 13 + "a", 1),
    ("ab" * 19 + "aa", "ab" * 19 + "aa", 1),
]


class Roots(unittest.TestCase):
    def check(self, word):
        self.assertEqual((root(word), often(word)), said_root(word), word)

    def test_known_roots(self):
        for word, told, times in KNOWN:
            self.assertEqual((root(word), often(word)), (told, times), word)

    def test_forty_letters(self):
        for word, told, times in KNOWN_LONG:
            self.assertEqual((len(word), root(word), often(word)), (40, told, times), word)

    def test_one_letter(self):
        for letter in LETTERS:
            self.assertEqual((root(letter), often(letter)), (letter, 1))

    def test_all_words_of_few_letters(self):
        for word in many_words():
            if word != "":
                self.check(word)

    def test_long_words(self):
        for word in long_words() + powers():
            self.check(word)

    def test_a_root_is_its_own_root_once(self):
        for word in all_words("ab", 9):
            if word != "":
                self.assertEqual((root(root(word)), often(root(word))), (root(word), 1), word)
                self.assertEqual(root(word) * often(word), word)

    def check_pairs(self, words):
        pairs = [(word, root(word)) for word in words if word != ""]
        for one, root_of_one in pairs:
            for other, root_of_other in pairs:
                self.assertEqual(one + other == other + one, root_of_one == root_of_other, (one, other))

    def test_both_put_together_either_way(self):
        self.check_pairs(all_words("ab", 8))
        self.check_pairs(all_words("abc", 4))

    def test_both_put_together_either_way_of_long_words(self):
        self.check_pairs(powers())


class KindsAndForm(unittest.TestCase):
    def test_kinds(self):
        for word, told, times in KNOWN + KNOWN_LONG:
            self.assertIs(type(root(word)), str)
            self.assertIs(type(often(word)), int)

    def test_asked_again_the_same_is_told(self):
        words = [word for word, told, times in KNOWN + KNOWN_LONG]
        first = [(root(word), often(word)) for word in words]
        self.assertEqual([(root(word), often(word)) for word in reversed(words)], first[::-1])

    def test_names_and_arguments(self):
        for name in ["root", "often"]:
            function = getattr(borderrow.roots, name)
            self.assertEqual(list(inspect.signature(function).parameters), ["word"])


if __name__ == "__main__":
    unittest.main()
