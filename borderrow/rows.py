"""Words, their rows of borders and their rows of starts."""

LONGEST = 14


def is_word(thing):
    """Tell whether a thing is a text of 0 to 14 letters a to z."""
    if not isinstance(thing, str) or len(thing) > LONGEST:
        return False
    return all(["a" <= sign <= "z" for sign in thing])


def greatest_border(head):
    """Give the greatest length, less than the whole, of which the head is the tail."""
    for border in range(len(head) - 1, 0, -1):
        if head.endswith(head[:border]):
            return border
    return 0


def alike(word, tail):
    """Give how many letters a word and one of its tails begin with alike."""
    length = 0
    while length < len(tail) and word[length] == tail[length]:
        length += 1
    return length


def border_row(word):
    """Give, for each head of one letter or more, its greatest border."""
    return tuple([greatest_border(word[:end]) for end in range(1, len(word) + 1)])


def start_row(word):
    """Give, for each place but the first, how many letters the tail from there and the word begin with alike."""
    return tuple([alike(word, word[place:]) for place in range(1, len(word))])


def starts_by(row):
    """Give the row of starts of a word whose row of borders is told."""
    starts = [0] * (len(row) - 1)
    for end, greatest in enumerate(row, start=1):
        border = greatest
        # The borders of a head are its greatest one and the borders of the head of that length. Each of them
        # is a start that reaches the head's end; the ends rise, so the longest start of a place is put last.
        while border > 0:
            starts[end - border - 1] = border
            border = row[border - 1]
    return tuple(starts)


def borders_by(row, length):
    """Give the row of borders of a word of so many letters whose row of starts is told."""
    borders = [0] * length
    # Of the starts that reach the end of a head, the one from the first place is its greatest border,
    # so the places are gone through backwards and the first one is put last.
    for place in range(length - 1, 0, -1):
        for border in range(1, row[place - 1] + 1):
            borders[place + border - 1] = border
    return tuple(borders)
