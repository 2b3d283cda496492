"""Texts that make each speaker lose."""

from saidearly.scripts import points
from saidearly.speakers import Speaker


def tease(book, pair, blocks):
    """Return two texts that are written against a speaker block by block, and their lengths behind each block."""
    speaker = Speaker(book, pair)
    left = ()
    right = ()
    lengths = []
    for block in range(blocks):
        a, b, x = 3 * block, 3 * block + 1, 3 * block + 2
        begin = len(left)
        lost = ""
        while lost == "":
            speaker.tick(a, b)
            left = left + (a,)
            right = right + (b,)
            a, b = b, a
            lost = _first_lost(speaker.said(), begin)
        # What was thrown away comes again, so that it could have been kept.
        if lost == "d":
            a, b = x, left[-1]
        else:
            a, b = right[-1], x
        speaker.tick(a, b)
        left = left + (a,)
        right = right + (b,)
        lengths.append(len(left))
    return left, right, lengths


def _first_lost(said, begin):
    """Return the first step of a script that drops or puts a letter with this index or a greater one, or ""."""
    for step, (i, j) in zip(said, points(said)):
        if (step == "d" and i >= begin) or (step == "p" and j >= begin):
            return step
    return ""
