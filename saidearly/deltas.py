"""Deltas: scripts with the letters that they put, told run by run."""

from saidearly.errors import DoesNotFit, NotAScript
from saidearly.letters import is_text, is_tuple_of_two, is_within

GREATEST_NUMBER = 10 ** 9
WORDS = {"k": "keep", "d": "drop", "p": "put"}


def is_delta(thing):
    """Tell whether any value is a delta."""
    if not isinstance(thing, list) or not all([is_deed(deed) for deed in thing]):
        return False
    return all([one[0] != other[0] for one, other in zip(thing, thing[1:])])


def is_deed(thing):
    """Tell whether any value is a deed of a delta."""
    if not is_tuple_of_two(thing):
        return False
    word, load = thing
    if word == "put":
        return is_text(load) and load != ()
    return word in ("keep", "drop") and is_within(load, 1, GREATEST_NUMBER)


def of_script(script, right):
    """Return the delta of a script to a right text."""
    return deeds_of(script, right, "kp")


def script_of(delta):
    """Return the script of a delta."""
    return "".join([word[0] * _many(load) for word, load in delta])


def put_by(delta):
    """Return the text of all letters that a delta puts."""
    return tuple([letter for word, load in delta if word == "put" for letter in load])


def applied(delta, left):
    """Return the right text to which a delta leads from a left one."""
    found = ()
    for (word, load), used in zip(delta, _used_by(delta, left)):
        if word == "keep":
            found = found + used
        if word == "put":
            found = found + load
    return found


def cost(delta, left, prices):
    """Return the price of the script of a delta on a left text."""
    total = 0
    for (word, load), used in zip(delta, _used_by(delta, left)):
        if word == "drop":
            total += prices.drops(used)
        if word == "put":
            total += prices.puts(load)
    return total


def back(delta, left):
    """Return the delta from the right text of one to its left text."""
    found = []
    for (word, load), used in zip(delta, _used_by(delta, left)):
        if word == "keep":
            found.append((word, load))
        if word == "drop":
            found.append(("put", used))
        if word == "put":
            found.append(("drop", len(load)))
    return found


def chained(one, other):
    """Return the delta from the left text of one to the right text of other."""
    _check_fit(other, sum([_many(load) for word, load in one if word != "drop"]))
    # Both in the order of their use, last ones first.
    firsts = one[::-1]
    seconds = other[::-1]
    found = []
    while firsts or seconds:
        if firsts and firsts[-1][0] == "drop":
            found.append(firsts.pop())
        elif seconds[-1][0] == "put":
            found.append(seconds.pop())
        else:
            found.extend(_both_done(firsts, seconds))
    return joined(found)


def deeds_of(script, text, users):
    """Return the delta of a script, each step of which that is among users uses a letter of a text."""
    at = 0
    found = []
    for index, step in enumerate(script):
        used = text[at:at + 1] if step in users else ()
        if step in users and used == ():
            raise NotAScript(index)
        at += len(used)
        found.append((WORDS[step], used if step == "p" else 1))
    if at < len(text):
        raise NotAScript(len(script))
    return joined(found)


def joined(deeds):
    """Return deeds in which neighbours of the same word are one."""
    found = []
    for word, load in deeds:
        if found and found[-1][0] == word:
            load = found.pop()[1] + load
        found.append((word, load))
    return found


def _many(load):
    """Return how many steps a deed has by what stands behind its word."""
    if isinstance(load, tuple):
        return len(load)
    return load


def _check_fit(delta, many):
    """Refuse a delta that does not lead from texts of so many letters."""
    for index, (word, load) in enumerate(delta):
        if word != "put":
            if load > many:
                raise DoesNotFit(index)
            many -= load
    if many > 0:
        raise DoesNotFit(len(delta))


def _used_by(delta, left):
    """Return for each deed the letters of a left text that it keeps or drops."""
    _check_fit(delta, len(left))
    found = []
    at = 0
    for word, load in delta:
        many = 0 if word == "put" else load
        found.append(left[at:at + many])
        at += many
    return found


def _both_done(firsts, seconds):
    """Take what the last deed of each of two lists does to the same letters of a text between off both, and join it.

    The first one keeps or puts these letters, the second one keeps or drops them.
    """
    word, load = firsts.pop()
    after, more = seconds.pop()
    many = min(_many(load), more)
    if many < more:
        seconds.append((after, more - many))
    if word == "keep":
        if many < load:
            firsts.append((word, load - many))
        return [(after, many)]
    if many < len(load):
        firsts.append((word, load[many:]))
    if after == "keep":
        return [(word, load[:many])]
    return []
