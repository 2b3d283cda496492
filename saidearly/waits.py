"""Waits: how many ticks ago what can be said for sure ended, whatever comes."""

from saidearly.errors import NoWait
from saidearly.findings import Findings
from saidearly.patterns import grown, last_letters
from saidearly.rimheights import heights_behind, lots_behind
from saidearly.walks import leaving, shortest_walk, texts_along

MOST_ROWS = 2000
FIRST_STAND = (0, ((), ()), (0,))


def waits(left, right, pair, lag):
    """Return the waits behind 0, 1, .. ticks of two texts of equal length."""
    heights = (0,)
    # For each lot of a point the greatest max(i, j) of such a point; that of (0, 0) has all rim points for good.
    latest = {(0,): 0}
    found = [0]
    for at in range(len(left)):
        first = max(0, at - lag)
        on_left, on_right, tick = left[first:at], right[first:at], (left[at], right[at])
        leads = lots_behind(heights, on_left, on_right, tick, pair, lag)
        heights, _ = heights_behind(heights, on_left, on_right, tick, pair, lag)
        behind = {lot: at + 1 for lot in leads[1]}
        for lot, place in latest.items():
            after = _lot_behind(lot, leads[0])
            behind[after] = max(behind.get(after, 0), place)
        latest = behind
        found.append(at + 1 - latest[tuple(range(len(heights)))])
    return found


class WaitTable:
    """The stands of a sender and the heights, and the rows of steps behind which the wait still grows."""

    def __init__(self, sender, pair, lag):
        self._sender = sender
        self._pair = pair
        self._lag = lag
        self._memory = max(lag, sender.span())
        self._findings = Findings(FIRST_STAND)
        # For each arrow what leads to the rim behind it.
        self._leads = []
        number = 0
        while number < self._findings.many_stands():
            self._leave(number)
            number += 1
        self._found_rows = Findings((0, ()), MOST_ROWS)
        self._found_steps = []
        self._find_rows()

    def stands(self):
        """Return the tuples (place, pattern, heights)."""
        return self._findings.stand_list()

    def arrows(self):
        """Return the tuples (stand, x, y, target)."""
        return self._findings.arrow_list()

    def rows(self):
        """Return the tuples (stand, family)."""
        return self._found_rows.stand_list()

    def steps(self):
        """Return the tuples (row, arrow, target)."""
        return list(self._found_steps)

    def ranks(self):
        """Return for each row how many steps can follow one another from it, or None if there is no most."""
        many = self._found_rows.many_stands()
        ranks = [0] * many
        unranked = [0] * many
        ahead = [[] for _ in range(many)]
        for row, _, target in self._found_steps:
            unranked[row] += 1
            ahead[target].append(row)
        # A row has its rank when all rows to which its steps lead have theirs; one that can come to a ring never has.
        ready = [row for row in range(many) if unranked[row] == 0]
        while ready:
            target = ready.pop()
            for row in ahead[target]:
                ranks[row] = max(ranks[row], ranks[target] + 1)
                unranked[row] -= 1
                if unranked[row] == 0:
                    ready.append(row)
        return [None if waiting else rank for rank, waiting in zip(ranks, unranked)]

    def longest(self):
        """Return the greatest rank, or None if some rank is None."""
        ranks = self.ranks()
        if None in ranks:
            return None
        return max(ranks)

    def texts(self, wait):
        """Return texts that the sender can begin and behind which the wait is at least so great."""
        ranks = self.ranks()
        fair = [row for row, rank in enumerate(ranks) if _is_so_great(rank, wait)]
        if not fair:
            raise NoWait(wait)
        # With fewer points a family stays open as long at least. So the first row of a rank so great has no point
        # yet, and its number is that of its stand.
        arrows = self.arrows()
        walk = shortest_walk(arrows, self._findings.many_stands(), fair[0]) + self._stepped(ranks, fair[0], wait)
        return texts_along([stand[1] for stand in self.stands()], [arrows[number] for number in walk])

    def _leave(self, number):
        """Find the arrows of a stand, and the stands to which they lead."""
        place, pattern, heights = self._findings.stand_at(number)
        on_left, on_right = pattern
        for x, y, to in self._sender.moves(place, pattern):
            ahead, _ = heights_behind(heights, on_left, on_right, (x, y), self._pair, self._lag)
            behind = (to, last_letters(grown(pattern, (x, y)), self._memory, self._memory), ahead)
            target = self._findings.number_of(behind)
            self._findings.add_arrow((number, x, y, target))
            self._leads.append(lots_behind(heights, on_left, on_right, (x, y), self._pair, self._lag))

    def _find_rows(self):
        """Find the rows, and the steps from each to others."""
        for stand in range(self._findings.many_stands()):
            self._found_rows.number_of((stand, ()))
        arrows = self.arrows()
        ways = leaving(arrows, self._findings.many_stands())
        row = 0
        while row < self._found_rows.many_stands():
            stand, family = self._found_rows.stand_at(row)
            for arrow in ways[stand]:
                behind = _family_behind(family, self._leads[arrow])
                # The rim behind the tick has as many points as it has new lots.
                if max([len(lot) for lot in behind]) < len(self._leads[arrow][1]):
                    target = self._found_rows.number_of((arrows[arrow][3], behind))
                    self._found_steps.append((row, arrow, target))
            row += 1

    def _stepped(self, ranks, row, many):
        """Return the arrows of so many steps that follow one another from a row."""
        ways = leaving(self._found_steps, len(ranks))
        found = []
        for more in reversed(range(many)):
            steps = [self._found_steps[step] for step in ways[row]]
            fair = [step for step in steps if _is_so_great(ranks[step[2]], more)]
            found.append(fair[0][1])
            row = fair[0][2]
        return found


def _is_so_great(rank, wait):
    return rank is None or rank >= wait


def _lot_behind(lot, leads):
    """Return the lot of a point behind a tick; leads tells what leads to the rim from each point of the one ahead."""
    return tuple(sorted({end: True for k in lot for end in leads[k]}))


def _family_behind(family, leads):
    """Return the family of some ticks and one more."""
    found = {lot: True for lot in leads[1]}
    for lot in family:
        behind = _lot_behind(lot, leads[0])
        if behind:
            found[behind] = True
    return tuple(sorted(found))
