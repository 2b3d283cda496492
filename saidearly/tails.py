"""Tails: the last letters of both texts, where they are known ahead."""

from saidearly.errors import Broken, Ended, NoSaying, NotComparable, UnderLag, Wrong
from saidearly.extras import first_greatest, rim_extras
from saidearly.letters import is_text
from saidearly.prices import Prices
from saidearly.sayings import atoms, check_saying
from saidearly.standings import Standing

LONGEST_TAIL = 8
NO_PROMISE = ("none",)


class Tails:
    """The last letters of both texts; nothing changes them."""

    def __init__(self, prices, left, right):
        if not isinstance(prices, Prices):
            raise Wrong(0)
        if not _is_tail(left):
            raise Wrong(1)
        if not _is_tail(right):
            raise Wrong(2)
        self._left = left
        self._right = right
        # Read backwards, tails are heads behind which more may come, and the tail rim is the rim of these.
        self._backward = Standing(prices, NO_PROMISE)
        self._backward.grow("left", left[::-1])
        self._backward.grow("right", right[::-1])

    def left(self):
        return self._left

    def right(self):
        return self._right

    def rim(self):
        """Return the tuples (point, D) of the tail rim, in its order."""
        return [((len(self._left) - i, len(self._right) - j), worth) for (i, j), worth in self._backward.rim()]

    def least(self):
        """Return the smallest D."""
        return min([worth for _, worth in self.rim()])

    def backward(self):
        """Return a standing whose heads are the tails, read backwards."""
        return self._backward.twin()


def extra_with_tails(standing, tails, saying, tail_saying):
    """Return the greatest extra of holding both sayings, and a going-on at which it is reached."""
    check_saying(saying, standing)
    _check_tail_saying(tails, tail_saying)
    if standing.promised()[0] == "lag":
        raise UnderLag()
    for side in ("left", "right"):
        if not standing.is_open(side):
            raise Ended(side)
    if standing.prices() != tails.backward().prices():
        raise NotComparable()
    pairs = _pairs(rim_extras(standing, saying), _tail_extras(tails, tail_saying), standing.promised())
    if not pairs:
        raise Broken()
    number, head_part, tail_part = first_greatest(pairs)
    return number, _joined(standing, tails, head_part, tail_part)


def _is_tail(thing):
    return is_text(thing) and len(thing) <= LONGEST_TAIL


def _check_tail_saying(tails, tail_saying):
    if tail_saying is None:
        return
    if [atom for atom in atoms(tail_saying) if atom[0] == "begins"]:
        raise NoSaying(tail_saying)
    check_saying(tail_saying, tails.backward())


def _tail_extras(tails, tail_saying):
    """Return the tuples (extra, D, tail echo) of the tail rim points, in their order."""
    if tail_saying is None:
        # Each script begins so.
        turned = ("begins", "")
    else:
        turned = _backward_saying(tail_saying, len(tails.left()), len(tails.right()))
    return [(extra, worth, (on_left[::-1], on_right[::-1]))
            for extra, worth, (on_left, on_right) in rim_extras(tails.backward(), turned)]


def _backward_saying(saying, n, m):
    """Return the same saying about texts of n and m letters that are read backwards."""
    if saying[0] == "kept":
        return "kept", n - 1 - saying[1], m - 1 - saying[2]
    if saying[0] == "alone":
        many = n if saying[1] == "left" else m
        return "alone", saying[1], many - 1 - saying[2]
    return (saying[0],) + tuple([_backward_saying(part, n, m) for part in saying[1:]])


def _pairs(head_parts, tail_parts, promise):
    """Return the tuples (extra of both, head part, tail part) of all pairs that are let, in their order."""
    found = []
    for head_part in head_parts:
        for tail_part in tail_parts:
            if promise[0] != "total" or head_part[1] + tail_part[1] <= promise[1]:
                found.append((_sum(head_part[0], tail_part[0]), head_part, tail_part))
    return found


def _sum(one, other):
    if one is None or other is None:
        return None
    return one + other


def _joined(standing, tails, head_part, tail_part):
    """Return the going-on with both echoes and so many new letters between them that no cheap script crosses them."""
    row = _new_letters(standing, tails, (_price_of(head_part) + _price_of(tail_part)) // 2 + 1)
    return head_part[2][0] + row + tail_part[2][0], head_part[2][1] + row + tail_part[2][1]


def _price_of(part):
    """Return the price of holding what is said at a rim point, the D where nothing holds it."""
    extra, worth, _ = part
    if extra is None:
        return worth
    return worth + extra


def _new_letters(standing, tails, many):
    """Return the least letters, ascending, that are in no head, no tail and no table."""
    used = list(standing.prices().table()) + list(tails.left() + tails.right())
    used.extend(standing.head("left") + standing.head("right"))
    found = []
    letter = 0
    while len(found) < many:
        if letter not in used:
            found.append(letter)
        letter += 1
    return tuple(found)
