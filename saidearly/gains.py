"""What speakers lose against the least script, tick by tick, on the texts that a sender can send."""

from saidearly.errors import NoStand, NotSent, Wrong
from saidearly.findings import Findings
from saidearly.grids import least
from saidearly.letters import is_pair, is_within
from saidearly.patterns import grown, last_letters, tick_of
from saidearly.prices import prices_of_pair
from saidearly.rimheights import heights_behind
from saidearly.rulebooks import Rulebook
from saidearly.senders import Sender
from saidearly.speakers import paid_for, speak, spoken
from saidearly.walks import leaving

WIDEST_LAG = 2
NO_PROMISE = ("none",)
FIRST_STAND = (0, 0, (0, 0), ((), ()), (0,))


class GainTable:
    """The stands of a sender, a speaker and the least, and what each tick gains over the least."""

    def __init__(self, book, pair, lag, sender):
        if not isinstance(book, Rulebook):
            raise Wrong(0)
        if not is_pair(pair):
            raise Wrong(1)
        if not is_within(lag, 1, WIDEST_LAG):
            raise Wrong(2)
        if not isinstance(sender, Sender):
            raise Wrong(3)
        self._book = book
        self._pair = pair
        self._lag = lag
        self._sender = sender
        self._memory = max(book.window() - 1, lag, sender.span())
        self._findings = Findings(FIRST_STAND)
        number = 0
        while number < self._findings.many_stands():
            self._leave(number)
            number += 1
        self._leaving = leaving(self.arrows(), self._findings.many_stands())

    def stands(self):
        """Return the tuples (place, mark, waits, pattern, heights)."""
        return self._findings.stand_list()

    def arrows(self):
        """Return the tuples (stand, x, y, gain, target)."""
        return self._findings.arrow_list()

    def closing(self, stand):
        """Return the least price of the letters that wait at a stand."""
        if not is_within(stand, 0, self._findings.many_stands() - 1):
            raise NoStand(stand)
        left, right = _waiting(self._findings.stand_at(stand))
        return least(left, right, prices_of_pair(self._pair, left + right), NO_PROMISE)

    def walk(self, left, right):
        """Return the least list of the arrows that two texts of equal length take."""
        arrows = self.arrows()
        found = []
        stand = 0
        for numbers in self._leading_on(self._taken(left, right)):
            number = min([number for number in numbers if arrows[number][0] == stand])
            found.append(number)
            stand = arrows[number][4]
        return found

    def _taken(self, left, right):
        """Return for each tick of two texts the arrows that runs can take with it."""
        arrows = self.arrows()
        found = []
        stands = [0]
        for at in range(len(left)):
            first = max(0, at - self._memory)
            tick = tick_of(left[first:at], right[first:at], left[at], right[at])
            numbers = [number for stand in stands for number in self._leaving[stand]
                       if arrows[number][1:3] == tick]
            if not numbers:
                raise NotSent(at)
            found.append(numbers)
            stands = list({arrows[number][4]: True for number in numbers})
        return found

    def _leading_on(self, taken):
        """Return for each tick those of the arrows behind which the other ticks can follow."""
        arrows = self.arrows()
        found = []
        for numbers in taken[::-1]:
            if found:
                begins = [arrows[number][0] for number in found[-1]]
                found.append([number for number in numbers if arrows[number][4] in begins])
            else:
                found.append(numbers)
        return found[::-1]

    def _leave(self, number):
        """Find the arrows of a stand, and the stands to which they lead."""
        stand = self._findings.stand_at(number)
        place, mark, _, pattern, heights = stand
        left, right = _waiting(stand)
        for x, y, to in self._sender.moves(place, pattern):
            said, after, on_left, on_right = speak(self._book, mark, left + (x,), right + (y,))
            ahead, growth = heights_behind(heights, pattern[0], pattern[1], (x, y), self._pair, self._lag)
            remembered = last_letters(grown(pattern, (x, y)), self._memory, self._memory)
            behind = (to, after, (len(on_left), len(on_right)), remembered, ahead)
            target = self._findings.number_of(behind)
            self._findings.add_arrow((number, x, y, paid_for(said, self._pair) - growth, target))


def loss_of(book, pair, lag, left, right):
    """Return how much more than the least a speaker pays for two texts of equal length."""
    script = spoken(book, pair, left, right)
    return paid_for(script, pair) - least(left, right, prices_of_pair(pair, left + right), ("lag", lag))


def _waiting(stand):
    """Return the numbers, in the pattern of a stand, of the letters that wait on each side."""
    left, right = stand[3]
    return left[len(left) - stand[2][0]:], right[len(right) - stand[2][1]:]
