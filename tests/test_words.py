"""Tests of the words of rows: [2.1], [2.2], [0.2] (a) and (b), with [0.3] and [0.4]."""

import inspect
import itertools
import unittest

import borderrow.words
from borderrow.words import count_rows, nexts, word_of
from said import LETTERS, borders, grown, said_borders, words_by_row, words_with

GREAT = 10 ** 40

# A row, and the first word that has it.
KNOWN = [
    ((), ""),
    ((0,), "a"),
    ((0, 0), "ab"),
    ((0, 1), "aa"),
    ((0, 0, 0), "abb"),
    ((0, 0, 1), "aba"),
    ((0, 1, 0), "aab"),
    ((0, 1, 2), "aaa"),
    ((0, 0, 0, 0), "abbb"),
    ((0, 0, 1, 0), "abac"),
    ((0, 0, 1, 1), "abaa"),
    ((0, 0, 1, 1, 2), "abaab"),
    ((0, 0, 0, 1, 0), "abbac"),
    ((0, 0, 0, 1, 2, 0), "abbabc"),
    ((0, 1, 0, 1, 0), "aabab"),
    ((0, 0, 1, 0, 1, 2, 3, 0), "abacabad"),
    ((0, 0, 1, 2, 0, 0, 0), "ababbbb"),
    ((0, 0, 0, 1, 2, 3, 4, 5), "abbabbab"),
]

# A row of 13 or 14 numbers, and the first word that has it.
KNOWN_LONG = [
    ((0,) * 13, "a" + "b" * 12),
    ((0,) * 14, "a" + "b" * 13),
    (tuple(range(13)), "a" * 13),
    (tuple(range(14)), "a" * 14),
    (tuple(range(13)) + (0,), "a" * 13 + "b"),
    ((0, 0) + tuple(range(1, 12)), "ababababababa"),
    ((0, 0) + tuple(range(1, 13)), "ababababababab"),
    ((0, 0, 1, 0, 1, 2, 3, 0, 1, 2, 3, 4, 5), "abacabadabaca"),
    ((0, 0, 1, 0, 1, 2, 3, 0, 1, 2, 3, 4, 5, 6), "abacabadabacab"),
    ((0, 0, 1, 0, 1, 2, 3, 0, 1, 2, 3, 4, 5, 0), "abacabadabacac"),
]

# A row that no word has, and the first place that bars it.
BARRED = [
    ((1,), 0), ((-1,), 0), ((2,), 0), ((GREAT,), 0), ((-GREAT,), 0), ((14,), 0), ((1, 0, 0), 0), ((1, 2, 3), 0),
    ((0, 2), 1), ((0, -1), 1), ((0, 3), 1), ((0, GREAT), 1), ((0, -GREAT, 0), 1),
    ((0, 0, 2), 2), ((0, 0, 3), 2), ((0, 1, 1), 2), ((0, 1, 3), 2), ((0, 1, -1), 2), ((0, 1, 1, 0, 0), 2),
    ((0, 0, 1, 3), 3), ((0, 0, 1, 4), 3), ((0, 1, 2, 1), 3), ((0, 1, 2, 2), 3), ((0, 1, 0, 2), 3), ((0, 1, 0, 3), 3),
    ((0, 0, 1, 2, 1), 4), ((0, 0, 1, 2, 2), 4), ((0, 0, 0, 1, 2, 3, 4, 2), 7), ((0, 0, 0, 1, 2, 3, 4, 3), 7),
    # More places that bar than one.
    ((1, 1), 0), ((-1, -1, -1), 0), ((0, 2, 2), 1), ((0, 5, -1, GREAT), 1), ((0, 0, 2, 4, 6), 2), ((3, 2, 1, 0), 0),
    # Of 13 and 14 numbers.
    ((0,) * 12 + (2,), 12), ((0,) * 13 + (2,), 13), ((0,) * 13 + (-1,), 13), ((0,) * 13 + (14,), 13),
    ((0,) * 13 + (13,), 13), ((0,) * 6 + (2,) + (0,) * 7, 6), ((1,) + (0,) * 13, 0), (tuple(range(1, 15)), 0),
    (tuple(range(13)) + (14,), 13), (tuple(range(13)) + (12,), 13), (tuple(range(13)) + (1,), 13),
    (tuple(range(7)) + (3,) + tuple(range(6)), 7), ((GREAT,) * 14, 0), ((-GREAT,) * 14, 0), ((0,) + (GREAT,) * 13, 1),
    ((0,) + (-1,) * 13, 1), ((0, 0) + tuple(range(1, 12)) + (13,), 13), ((0, 0) + tuple(range(1, 12)) + (11,), 13),
]

# Words of 13 and 14 letters whose rows have few words.
TIGHT = ["aaaaaaaaaaaaa", "aaaaaaaaaaaaaa", "aaaaaaaaaaaaab", "ababababababa", "ababababababab",
         "aabaabaabaabaa", "abaababaabaab", "abaababaabaaba", "abacabadabaca", "abacabadabacab", "aaabaaabaaabaa"]

BY_ROW = words_by_row(8)


def said_word(row):
    """What word_of is to tell, of rows of up to 8 numbers."""
    for place in range(len(row)):
        if row[:place + 1] not in BY_ROW:
            return ("place", place)
    return ("word", min(BY_ROW[row]))


def said_nexts(words):
    """All numbers that may be put behind the row that these are all words of."""
    return tuple(sorted({max(borders(word + letter)) for word in words for letter in LETTERS}))


def changed(row, numbers):
    """The row with each of its numbers made another one."""
    for place in range(len(row)):
        for number in numbers:
            yield row[:place] + (number,) + row[place + 1:]


def spread_words():
    """Words of 13 and 14 letters, spread over all of letters a and b, and of a, b and c."""
    for letters, length, step in [("ab", 13, 37), ("ab", 14, 61), ("abc", 13, 9973), ("abc", 14, 19937)]:
        for number in range(0, len(letters) ** length, step):
            yield "".join([letters[number // len(letters) ** place % len(letters)] for place in range(length)])


class WordOf(unittest.TestCase):
    def test_known_words(self):
        for row, word in KNOWN + KNOWN_LONG:
            self.assertEqual(word_of(row), ("word", word), row)

    def test_known_places(self):
        for row, place in BARRED:
            self.assertEqual(word_of(row), ("place", place), row)

    def test_all_rows_of_few_small_numbers(self):
        for length in range(6):
            for row in itertools.product(range(-1, 7), repeat=length):
                self.assertEqual(word_of(row), said_word(row), row)
        for row in itertools.product(range(6), repeat=6):
            self.assertEqual(word_of(row), said_word(row), row)

    def test_all_rows_of_words(self):
        for row, words in BY_ROW.items():
            self.assertEqual(word_of(row), ("word", min(words)), row)

    def test_rows_of_words_with_one_number_changed(self):
        numbers = list(range(-2, 10)) + [GREAT, -GREAT]
        for row in BY_ROW:
            for other in changed(row, numbers):
                self.assertEqual(word_of(other), said_word(other), other)

    def test_rows_of_words_with_two_numbers_changed(self):
        for row in [row for row in BY_ROW if len(row) == 6]:
            for other in changed(row, [-1, 1, 2, 6, GREAT]):
                for third in changed(other, [-1, 1, 3, 7]):
                    self.assertEqual(word_of(third), said_word(third), third)

    def test_no_word_has_fewer_letters(self):
        for row, words in BY_ROW.items():
            self.assertEqual(len(set(word_of(row)[1])), min([len(set(word)) for word in words]), row)

    def check_least(self, row):
        """A word ahead of the told one has, at the first place where they differ, a letter that comes ahead."""
        kind, word = word_of(row)
        self.assertEqual((kind, said_borders(word)), ("word", row))
        for place, letter in enumerate(word):
            for ahead in LETTERS[:LETTERS.index(letter)]:
                self.assertNotEqual(max(borders(word[:place] + ahead)), row[place], row)

    def test_rows_of_thirteen_and_fourteen_numbers(self):
        for word in spread_words():
            self.check_least(said_borders(word))

    def test_tight_rows_of_thirteen_and_fourteen_numbers(self):
        for word in TIGHT:
            row = said_borders(word)
            words = words_with(row)
            self.assertEqual(word_of(row), ("word", min(words)))
            self.assertEqual(len(set(word_of(row)[1])), min([len(set(other)) for other in words]))

    def test_tight_rows_barred_at_the_last_place(self):
        for word in TIGHT:
            row = said_borders(word[:-1])
            may = said_nexts(words_with(row))
            for number in list(range(-2, 17)) + [GREAT, -GREAT]:
                told = word_of(row + (number,))
                if number in may:
                    self.assertEqual(told[0], "word", (row, number))
                else:
                    self.assertEqual(told, ("place", len(row)), (row, number))

    def test_somewhat_longer_rows(self):
        self.assertEqual(word_of((0,) * 15), ("word", "a" + "b" * 14))
        self.assertEqual(word_of(tuple(range(16))), ("word", "a" * 16))
        self.assertEqual(word_of(said_borders("abacabadabacabae")), ("word", "abacabadabacabae"))
        self.assertEqual(word_of((0,) * 15 + (2,)), ("place", 15))


class Nexts(unittest.TestCase):
    def test_known_numbers(self):
        for row, told in [((), (0,)), ((0,), (0, 1)), ((0, 0), (0, 1)), ((0, 1), (0, 2)), ((0, 0, 1), (0, 1, 2)),
                          ((0, 1, 0), (0, 1)), ((0, 1, 2), (0, 3)), ((0, 0, 0), (0, 1)), ((0, 0, 1, 1), (0, 1, 2)),
                          ((0, 0, 1, 0, 1, 2, 3), (0, 1, 2, 4)), ((0, 1, 0, 1, 2), (0, 2, 3))]:
            self.assertEqual(nexts(row), told, row)

    def test_all_rows_of_words(self):
        for row in [row for row in BY_ROW if len(row) < 8]:
            told = tuple([number for number in range(-1, 10) if row + (number,) in BY_ROW])
            self.assertEqual(nexts(row), told, row)

    def test_rows_of_thirteen_and_fourteen_numbers(self):
        for length in [13, 14]:
            self.assertEqual(nexts((0,) * length), (0, 1))
            self.assertEqual(nexts(tuple(range(length))), (0, length))
        for word in TIGHT:
            row = said_borders(word)
            self.assertEqual(nexts(row), said_nexts(words_with(row)), row)

    def test_just_these_make_a_row_of_a_word(self):
        for word in spread_words():
            row = said_borders(word)
            told = tuple([number for number in range(-1, 17) if word_of(row + (number,))[0] == "word"])
            self.assertEqual(nexts(row), told, row)


class CountRows(unittest.TestCase):
    def test_known_counts(self):
        self.assertEqual([count_rows(length) for length in range(10)], [1, 1, 2, 4, 9, 20, 47, 110, 263, 630])

    def test_against_the_rows_of_all_words(self):
        for length in range(9):
            self.assertEqual(count_rows(length), len([row for row in BY_ROW if len(row) == length]))

    def test_nine_numbers(self):
        words = [word for row in BY_ROW if len(row) == 8 for word in BY_ROW[row]]
        self.assertEqual(count_rows(9), len({said_borders(word) for word in grown(words)}))

    def test_against_what_may_come_next(self):
        rows = [()]
        for length in range(10):
            self.assertEqual(count_rows(length), len(rows))
            rows = [row + (number,) for row in rows for number in nexts(row)]

    def test_somewhat_longer_rows(self):
        self.assertEqual([count_rows(length) for length in [10, 11, 12]], [1525, 3701, 9039])


class KindsAndForm(unittest.TestCase):
    def check_numbers(self, numbers):
        self.assertIs(type(numbers), tuple)
        for number in numbers:
            self.assertIs(type(number), int)

    def test_kinds(self):
        for row, word in KNOWN + KNOWN_LONG:
            told = word_of(row)
            self.assertEqual((type(told), len(told), type(told[1])), (tuple, 2, str))
            self.check_numbers(nexts(row))
            self.assertEqual(list(nexts(row)), sorted(set(nexts(row))))
        for row, place in BARRED:
            told = word_of(row)
            self.assertEqual((type(told), len(told), type(told[1])), (tuple, 2, int))
        self.check_numbers(tuple([count_rows(length) for length in range(10)]))

    def test_asked_again_the_same_is_told(self):
        questions = [row for row, told in KNOWN + KNOWN_LONG + BARRED]
        first = [word_of(row) for row in questions]
        self.assertEqual([word_of(row) for row in reversed(questions)], first[::-1])
        rows = [row for row, word in KNOWN + KNOWN_LONG]
        first = [nexts(row) for row in rows]
        self.assertEqual([nexts(row) for row in reversed(rows)], first[::-1])
        first = [count_rows(length) for length in range(10)]
        self.assertEqual([count_rows(length) for length in range(9, -1, -1)], first[::-1])

    def test_names_and_arguments(self):
        for name, arguments in [("word_of", ["row"]), ("nexts", ["row"]), ("count_rows", ["length"])]:
            function = getattr(borderrow.words, name)
            self.assertEqual(list(inspect.signature(function).parameters), arguments)


if __name__ == "__main__":
    unittest.main()
