"""The root of a word, and how often the word is it."""

from borderrow.periods import periods


def root(word):
    """Give the shortest word that, so often behind itself as it takes, is the word."""
    lengths = [period for period in periods(word) if len(word) % period == 0]
    return word[:lengths[0]]


def often(word):
    """Give how often the root is behind itself to be the word."""
    return len(word) // len(root(word))
