"""Tests of the row of borders and the row of starts: [1.2], [1.3], [0.2] (c), with [0.3] and [0.4]."""

import inspect
import itertools
import unittest

import borderrow.errors
import borderrow.rows
from borderrow.rows import border_row, borders_by, start_row, starts_by
from said import LETTERS, long_words, many_words, said_borders, said_starts

# A word, its row of borders, its row of starts.
KNOWN = [
    ("", (), ()),
    ("a", (0,), ()),
    ("z", (0,), ()),
    ("aa", (0, 1), (1,)),
    ("ab", (0, 0), (0,)),
    ("aaaa", (0, 1, 2, 3), (3, 2, 1)),
    ("aaab", (0, 1, 2, 0), (2, 1, 0)),
    ("abbb", (0, 0, 0, 0), (0, 0, 0)),
    ("abab", (0, 0, 1, 2), (0, 2, 0)),
    ("ababa", (0, 0, 1, 2, 3), (0, 3, 0, 1)),
    ("abaab", (0, 0, 1, 1, 2), (0, 1, 2, 0)),
    ("aabaa", (0, 1, 0, 1, 2), (1, 0, 2, 1)),
    ("aabaaa", (0, 1, 0, 1, 2, 2), (1, 0, 2, 2, 1)),
    ("abcabcab", (0, 0, 0, 1, 2, 3, 4, 5), (0, 0, 5, 0, 0, 2, 0)),
    ("abcdef", (0, 0, 0, 0, 0, 0), (0, 0, 0, 0, 0)),
    ("abacabad", (0, 0, 1, 0, 1, 2, 3, 0), (0, 1, 0, 3, 0, 1, 0)),
    ("aabaabaaa", (0, 1, 0, 1, 2, 3, 4, 5, 2), (1, 0, 5, 1, 0, 2, 2, 1)),
    ("mississippi", (0, 0, 0, 0, 0, 0, 0, 0, 0, 0, 0), (0, 0, 0, 0, 0, 0, 0, 0, 0, 0)),
    ("abababababababab", (0, 0) + tuple(range(1, 15)), (0, 14, 0, 12, 0, 10, 0, 8, 0, 6, 0, 4, 0, 2, 0)),
]


class KnownRows(unittest.TestCase):
    def test_rows_of_borders(self):
        for word, row, starts in KNOWN:
            self.assertEqual(border_row(word), row, word)

    def test_rows_of_starts(self):
        for word, row, starts in KNOWN:
            self.assertEqual(start_row(word), starts, word)

    def test_starts_by(self):
        for word, row, starts in KNOWN:
            self.assertEqual(starts_by(row), starts, word)

    def test_borders_by(self):
        for word, row, starts in KNOWN:
            self.assertEqual(borders_by(starts, len(word)), row, word)

    def test_the_empty_word_and_one_letter(self):
        self.assertEqual(border_row(""), ())
        self.assertEqual(start_row(""), ())
        self.assertEqual(starts_by(()), ())
        self.assertEqual(borders_by((), 0), ())
        for letter in LETTERS:
            self.assertEqual(border_row(letter), (0,))
            self.assertEqual(start_row(letter), ())
        self.assertEqual(starts_by((0,)), ())
        self.assertEqual(borders_by((), 1), (0,))

    def test_forty_letters(self):
        self.assertEqual(border_row("a" * 40), tuple(range(40)))
        self.assertEqual(start_row("a" * 40), tuple(range(39, 0, -1)))
        self.assertEqual(border_row("a" * 39 + "b"), tuple(range(39)) + (0,))
        self.assertEqual(start_row("a" * 39 + "b"), tuple(range(38, -1, -1)))
        self.assertEqual(border_row("b" + "a" * 39), (0,) * 40)
        self.assertEqual(start_row("b" + "a" * 39), (0,) * 39)
        self.assertEqual(border_row("ab" * 20), (0, 0) + tuple(range(1, 39)))
        self.assertEqual(border_row(LETTERS + LETTERS[:14]), (0,) * 26 + tuple(range(1, 15)))
        self.assertEqual(start_row(LETTERS + LETTERS[:14]), (0,) * 25 + (14,) + (0,) * 13)

    def test_rows_of_forty_zeros(self):
        self.assertEqual(starts_by((0,) * 40), (0,) * 39)
        self.assertEqual(borders_by((0,) * 39, 40), (0,) * 40)


class AllWords(unittest.TestCase):
    def check(self, word):
        row, starts = border_row(word), start_row(word)
        self.assertEqual(row, said_borders(word), word)
        self.assertEqual(starts, said_starts(word), word)
        self.assertEqual(starts_by(row), starts, word)
        self.assertEqual(borders_by(starts, len(word)), row, word)

    def test_all_words_of_few_letters(self):
        for word in many_words():
            self.check(word)

    def test_long_words(self):
        for word in long_words():
            self.check(word)

    def test_words_alike_in_one_row_are_alike_in_the_other(self):
        for length in range(7):
            words = ["".join(letters) for letters in itertools.product("abc", repeat=length)]
            pairs = {(border_row(word), start_row(word)) for word in words}
            self.assertEqual(len({row for row, starts in pairs}), len(pairs))
            self.assertEqual(len({starts for row, starts in pairs}), len(pairs))


class KindsAndForm(unittest.TestCase):
    def check_row(self, row, length):
        self.assertIs(type(row), tuple)
        self.assertEqual(len(row), length)
        for number in row:
            self.assertIs(type(number), int)

    def test_tuples_of_whole_numbers(self):
        for word in [word for word, row, starts in KNOWN] + long_words():
            row, starts = border_row(word), start_row(word)
            less = max(len(word) - 1, 0)
            self.check_row(row, len(word))
            self.check_row(starts, less)
            self.check_row(starts_by(row), less)
            self.check_row(borders_by(starts, len(word)), len(word))

    def test_asked_again_the_same_is_told(self):
        for again in range(2):
            for word, row, starts in KNOWN + KNOWN[::-1]:
                told = (border_row(word), start_row(word), starts_by(row), borders_by(starts, len(word)))
                self.assertEqual(told, (row, starts, starts, row))

    def test_names_and_arguments(self):
        for name, arguments in [("is_word", ["thing"]), ("border_row", ["word"]), ("start_row", ["word"]),
                                ("starts_by", ["row"]), ("borders_by", ["row", "length"])]:
            function = getattr(borderrow.rows, name)
            self.assertEqual(list(inspect.signature(function).parameters), arguments)

    def test_nothing_is_refused(self):
        held = [thing for thing in vars(borderrow.errors).values() if inspect.isclass(thing)]
        self.assertEqual(held, [])


if __name__ == "__main__":
    unittest.main()
