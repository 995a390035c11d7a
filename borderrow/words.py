"""The least words of rows of borders, what may come next in a row, and how many rows there are."""

from borderrow.rows import greatest_border

LETTERS = "abcdefghijklmnopqrstuvwxyz"


def first_letters(word):
    """Give, for each number that may come next in the row of a least word, the first letter that makes it so."""
    letters = {}
    # A least word skips no letter, and of the letters that it lacks the first one stands for all.
    for letter in LETTERS[:len(set(word)) + 1]:
        letters.setdefault(greatest_border(word + letter), letter)
    return letters


def word_of(row):
    """Give the first word of which this is the row of borders, or the first place that bars it."""
    word = ""
    # Which numbers may come next hangs on the row alone, not on which of its words was taken so far,
    # so the first letter at each place never bars a later one.
    for place, border in enumerate(row):
        letters = first_letters(word)
        if border not in letters:
            return ("place", place)
        word += letters[border]
    return ("word", word)


def nexts(row):
    """Give all numbers that may be put behind a word's row of borders."""
    return tuple(sorted(first_letters(word_of(row)[1])))


def count_rows(length):
    """Give how many rows of so many numbers are words' rows of borders."""
    words = [""]
    for step in range(length):
        longer = []
        for word in words:
            longer.extend([word + letter for letter in first_letters(word).values()])
        words = longer
    return len(words)
