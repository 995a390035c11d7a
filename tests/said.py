"""What the document says, in its own words, and the words that the tests go through."""

import itertools

LETTERS = "abcdefghijklmnopqrstuvwxyz"


def borders(word):
    """All lengths, less than that of the word, of which the head is the tail."""
    return [length for length in range(len(word)) if word[:length] == word[len(word) - length:]]


def said_borders(word):
    """The row of borders."""
    heads = [word[:length] for length in range(1, len(word) + 1)]
    return tuple([max(borders(head)) for head in heads])


def said_starts(word):
    """The row of starts."""
    tails = [word[place:] for place in range(1, len(word))]
    return tuple([max(length for length in range(len(tail) + 1) if tail[:length] == word[:length]) for tail in tails])


def is_period(word, number):
    """Whether each letter is the one that stands so many places further on, where there is one there."""
    return all(word[place] == word[place + number] for place in range(len(word) - number))


def said_periods(word):
    """All periods, rising."""
    return tuple([number for number in range(1, len(word) + 1) if is_period(word, number)])


def said_root(word):
    """The shortest word that, so often behind itself as it takes, is the word; and how often that is."""
    for length in range(1, len(word) + 1):
        for times in range(1, len(word) + 1):
            if word[:length] * times == word:
                return word[:length], times


def all_words(letters, longest):
    for length in range(longest + 1):
        for word in itertools.product(letters, repeat=length):
            yield "".join(word)


def many_words():
    """All words of few letters."""
    return itertools.chain(all_words("ab", 11), all_words("abc", 7), all_words("dcba", 5), all_words("azmbq", 4))


def grown(words):
    """Each word with one more letter: any that it has, or the first that it lacks.

    From the empty word on, this makes all words there are, but for which letters stand for which; and no word
    comes ahead of the one of these that it is with other letters.
    """
    return [word + letter for word in words for letter in LETTERS[:len(set(word)) + 1]]


def words_with(row):
    """All words of a row, but for which letters stand for which."""
    words = [""]
    for number in row:
        words = [word for word in grown(words) if max(borders(word)) == number]
    return words


def words_by_row(longest):
    """For each row of borders of up to so many numbers all its words, but for which letters stand for which."""
    words, found = [""], {(): [""]}
    for length in range(longest):
        words = grown(words)
        for word in words:
            found.setdefault(said_borders(word), []).append(word)
    return found


def doubled(pieces, length):
    """A word in which what stood so far comes again: each piece is the two ahead of it, put together."""
    one, other = pieces
    while len(other) < length:
        one, other = other, other + one
    return other[:length]


def long_words():
    """Words of 15 to 41 letters: most of them of 40."""
    words = [
        "a" * 40, "z" * 40, "a" * 39 + "b", "b" + "a" * 39, "a" * 20 + "b" + "a" * 19, "a" * 19 + "b" + "a" * 20,
        "ab" * 20, "ab" * 19 + "aa", "abc" * 13 + "a", "abc" * 13 + "b", "abcdefg" * 5 + "abcde", "aab" * 13 + "a",
        "abacabadabacabaeabacabadabacabafabacabad", LETTERS + LETTERS[:14], LETTERS[:20] * 2,
        doubled(("b", "a"), 40), doubled(("a", "b"), 40), doubled(("ab", "aac"), 40), doubled(("c", "abab"), 40),
    ]
    return words + [doubled(("b", "a"), length) for length in range(15, 42)] + [LETTERS, "a" * 41]


def powers():
    """Words of up to 40 letters that are a shorter one again and again, and those with one letter less."""
    roots = ["a", "z", "ab", "aab", "abc", "abab", "aabaa", "abaab", "zyxwv", "abacaba", "abcdefghij",
             "ababababac", "aaaaaaaaaaaaab", LETTERS[:20]]
    words = [root * times for root in roots for times in range(1, 41) if len(root) * times <= 40]
    return words + [word[:-1] for word in words if len(word) > 1]
