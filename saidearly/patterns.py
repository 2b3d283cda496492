"""Patterns: which of some letters are equal, whatever they are."""


def pattern_of(left, right):
    """Return the pattern of two texts."""
    numbers = _numbers(left + right)
    return numbers[:len(left)], numbers[len(left):]


def ticks(pattern):
    """Return the ticks of a pattern: what the next two letters may be like."""
    many = max((-1,) + pattern[0] + pattern[1]) + 1
    found = [(x, y) for x in range(many) for y in range(many + 1)]
    found.extend([(many, y) for y in range(many + 2)])
    return found


def tick_of(left, right, x, y):
    """Return the tick that two letters are for the pattern of two texts."""
    return _numbers(left + right + (x, y))[-2:]


def grown(pattern, tick):
    """Return a pattern with the two letters of a tick appended."""
    x, y = tick
    return pattern_of(pattern[0] + (x,), pattern[1] + (y,))


def cut(pattern, left, right):
    """Return a pattern without so many first letters of each side."""
    return pattern_of(pattern[0][left:], pattern[1][right:])


def last_letters(pattern, left, right):
    """Return the pattern of so many last letters of each side of one, or of all."""
    return cut(pattern, max(0, len(pattern[0]) - left), max(0, len(pattern[1]) - right))


def letters_of(left, right, tick, new):
    """Return two letters that are a tick for the pattern of two texts; new are two that are in neither text.

    Where only one letter has to be new, it is the first one of these.
    """
    known = list({letter: True for letter in left + right})
    many = len(known)
    for number in tick:
        if number == len(known):
            known.append(new[number - many])
    return known[tick[0]], known[tick[1]]


def _numbers(letters):
    """Return for each letter the number of its like, in the order in which these come."""
    found = {}
    for letter in letters:
        if letter not in found:
            found[letter] = len(found)
    return tuple([found[letter] for letter in letters])
