"""The periods of words, words of two letters with the same ones, and words just too short for a third one."""


def periods(word):
    """Give all numbers from 1 to the length such that each letter is the one so many places further on."""
    return tuple([period for period in range(1, len(word) + 1) if word.startswith(word[period:])])


def twin(word):
    """Give a word of letters a and b alone that is as long and has just the same periods."""
    if word == "":
        return ""
    period = periods(word)[0]
    if period == len(word):
        return "a" + "b" * (period - 1)
    times = len(word) // period
    rest = len(word) % period
    # What comes again and again has its periods by what stands there once, with the rest behind it.
    if times > 1:
        head = twin(word[:period + rest])
        return head[:period] * times + head[:rest]
    return framed(twin(word[:rest]), period)


def framed(border, period):
    """Give a word of letters a and b that this border begins and ends, and this is the least period of."""
    middle = "b" * (period - len(border) - 1)
    word = border + middle + "b" + border
    if periods(word)[0] == period:
        return word
    # A border that begins with a, as each twin does, has a shorter period with one of these two letters at most.
    return border + middle + "a" + border


def sharp(one, other):
    """Give a word with both periods that is one letter too short to have the number that divides both."""
    less = min(one, other)
    apart = abs(one - other)
    # Here what the two are apart divides both, and as a period it would put the letter b at other places, too.
    if less % apart == 0:
        return "a" * (less - 1) + "b" + "a" * (less - 1)
    # Such a word, less the letters of its lesser period ahead, is such a word of this period and what they are apart.
    tail = sharp(less, apart)
    return tail[:less] + tail
