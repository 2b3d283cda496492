"""The game of a teaser, who chooses the letters, and a speaker, who sees all that has come."""

from math import gcd

from saidearly.errors import NoStand, NoTick, Unsettled, Wrong
from saidearly.findings import Findings
from saidearly.grids import grid, least, least_script
from saidearly.letters import is_integer, is_pair, is_tuple_of_two, is_within
from saidearly.patterns import grown, last_letters, ticks
from saidearly.prices import prices_of_pair
from saidearly.rimheights import heights_behind
from saidearly.rulebooks import is_window
from saidearly.walks import texts_behind

WIDEST_LAG = 2
NO_PROMISE = ("none",)
FIRST_STAND = ((0, 0), ((), ()), (0,))
# All games that have no more than 600 stands come round within a few rounds.
MOST_ROUNDS = 1000


class GameTable:
    """The stands of the game, the moves from there, and what the game is worth."""

    def __init__(self, window, lag, pair):
        if not is_window(window):
            raise Wrong(0)
        if not is_within(lag, 1, WIDEST_LAG):
            raise Wrong(1)
        if not is_pair(pair):
            raise Wrong(2)
        self._window = window
        self._lag = lag
        self._pair = pair
        self._findings = Findings(FIRST_STAND)
        # For each stand the lists of the moves by the ticks.
        self._leads = []
        while len(self._leads) < self._findings.many_stands():
            stand = self._findings.stand_at(len(self._leads))
            self._leads.append({tick: self._moves_with(stand, tick) for tick in ticks(stand[1])})
        self._solution = None

    def stands(self):
        """Return the tuples (waits, pattern, heights)."""
        return self._findings.stand_list()

    def ticks(self, stand):
        """Return the ascending list of the ticks of a stand."""
        self._check_stand(stand)
        return list(self._leads[stand])

    def moves(self, stand, tick):
        """Return the tuples (move, gain, target) of a stand and a tick."""
        self._check_stand(stand)
        self._check_tick(stand, tick)
        return list(self._leads[stand][tick])

    def closing(self, stand):
        """Return the least price of the letters that wait at a stand."""
        self._check_stand(stand)
        waits, pattern, _ = self._findings.stand_at(stand)
        left, right = last_letters(pattern, waits[0], waits[1])
        return least(left, right, self._prices_of(left + right), NO_PROMISE)

    def value(self):
        """Return what the speaker loses with each tick, if both are at their best, in lowest terms."""
        return self._solved()[0]

    def speaker_heights(self):
        """Return a speaker table for the value."""
        return list(self._solved()[1])

    def teaser_heights(self):
        """Return a teaser table for the value."""
        return list(self._solved()[2])

    def best_move(self, stand, tick):
        """Return a move as the speaker heights ask for."""
        moves = self.moves(stand, tick)
        worths = self._worths(moves, self.speaker_heights())
        return moves[worths.index(min(worths))][0]

    def best_tick(self, stand):
        """Return a tick as the teaser heights ask for."""
        options = self.ticks(stand)
        rows = self.teaser_heights()
        worths = [min(self._worths(self._leads[stand][tick], rows)) for tick in options]
        return options[worths.index(max(worths))]

    def played(self, many):
        """Return the texts and the script of so many ticks in which both are at their best."""
        left = ()
        right = ()
        script = ""
        i = 0
        j = 0
        stand = 0
        for _ in range(many):
            tick = self.best_tick(stand)
            left, right = texts_behind(left, right, self._findings.stand_at(stand)[1], tick)
            a, b = self.best_move(stand, tick)
            script = script + self._script_of(left[i:i + a], right[j:j + b])
            i += a
            j += b
            stand = [target for move, _, target in self._leads[stand][tick] if move == (a, b)][0]
        return left, right, script + self._script_of(left[i:], right[j:])

    def _moves_with(self, stand, tick):
        """Find the moves (move, gain, target) of a stand with a tick, and the stands to which they lead."""
        waits, pattern, heights = stand
        ahead, growth = heights_behind(heights, pattern[0], pattern[1], tick, self._pair, self._lag)
        letters = grown(pattern, tick)
        memory = max(self._window - 1, self._lag)
        remembered = last_letters(letters, memory, memory)
        left, right = last_letters(letters, waits[0] + 1, waits[1] + 1)
        worths = grid(left, right, self._prices_of(left + right), NO_PROMISE)
        found = []
        for a in range(max(0, len(left) - self._window + 1), len(left) + 1):
            for b in range(max(0, len(right) - self._window + 1), len(right) + 1):
                behind = ((len(left) - a, len(right) - b), remembered, ahead)
                found.append(((a, b), worths[a][b] - growth, self._findings.number_of(behind)))
        return found

    def _check_stand(self, stand):
        if not is_within(stand, 0, self._findings.many_stands() - 1):
            raise NoStand(stand)

    def _check_tick(self, stand, tick):
        # True is equal to 1, so the ticks alone do not tell whether the items are integers.
        is_good = is_tuple_of_two(tick) and is_integer(tick[0]) and is_integer(tick[1])
        if not is_good or tick not in self._leads[stand]:
            raise NoTick(tick)

    def _prices_of(self, text):
        return prices_of_pair(self._pair, text)

    def _script_of(self, left, right):
        return least_script(left, right, self._prices_of(left + right), NO_PROMISE)

    def _worths(self, moves, rows):
        """Return what moves lead to: den * gain - num, and the height of the target."""
        num, den = self.value()
        return [den * gain - num + rows[target] for _, gain, target in moves]

    def _solved(self):
        """Return the value, a speaker table and a teaser table."""
        if self._solution is None:
            self._solution = _solution_of([list(row.values()) for row in self._leads])
        return self._solution


def _solution_of(leads):
    """Return the value, a speaker table and a teaser table of a game by the moves of each tick of each stand.

    The losses of 0, 1, .. ticks played at their best grow, when their differences come again, by the same numbers
    for good. Then the least and the greatest of what they are more than the value times the ticks, over the ticks
    between, are such tables.
    """
    rounds = [[0] * len(leads)]
    seen = {}
    while len(rounds) <= MOST_ROUNDS:
        sums = rounds[-1]
        shape = tuple([worth - sums[0] for worth in sums])
        if shape in seen:
            return _tables_of(rounds[seen[shape]:])
        seen[shape] = len(rounds) - 1
        rounds.append([_best_of(row, sums) for row in leads])
    raise Unsettled()


def _best_of(row, sums):
    """Return the greatest loss that a teaser can reach by the moves of each tick, where sums tells what follows."""
    return max([min([gain + sums[target] for _, gain, target in moves]) for moves in row])


def _tables_of(rounds):
    """Return the value and both tables by rounds of which the last one differs from the first one by one number."""
    grew = rounds[-1][0] - rounds[0][0]
    common = gcd(grew, len(rounds) - 1)
    num, den = grew // common, (len(rounds) - 1) // common
    shifted = [[den * worth - num * number for worth in sums] for number, sums in enumerate(rounds)]
    columns = [[sums[stand] for sums in shifted] for stand in range(len(rounds[0]))]
    return (num, den), [min(column) for column in columns], [max(column) for column in columns]
