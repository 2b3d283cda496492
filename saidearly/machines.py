"""Machines: the tables of what speakers do."""

from saidearly.findings import Findings
from saidearly.patterns import letters_of, pattern_of, ticks
from saidearly.speakers import speak

FIRST_STAND = (0, ((), ()))


class Machine:
    """All stands of a speaker behind its ticks, and what it says with each tick from there."""

    def __init__(self, book):
        self._book = book
        self._findings = Findings(FIRST_STAND)
        number = 0
        while number < self._findings.many_stands():
            self._leave(number)
            number += 1
        self._leads = [{} for _ in self.stands()]
        for start, tick, said, target in self.arrows():
            self._leads[start][tick] = (said, target)

    def stands(self):
        """Return the tuples (mark, pattern of what waits)."""
        return self._findings.stand_list()

    def arrows(self):
        """Return the tuples (from, tick, said, to)."""
        return self._findings.arrow_list()

    def walk(self, left, right):
        """Return the stands behind 0, 1, .. ticks of two texts of equal length."""
        mark, waits = FIRST_STAND
        found = [0]
        for x, y in zip(left, right):
            _, mark, on_left, on_right = speak(self._book, mark, waits[0] + (x,), waits[1] + (y,))
            waits = (on_left, on_right)
            found.append(self._findings.number_of((mark, pattern_of(on_left, on_right))))
        return found

    def least(self):
        """Return for each stand the least stand that is alike."""
        leads = [list(row.values()) for row in self._leads]
        keys = [(stand[1], tuple([said for said, _ in row])) for stand, row in zip(self.stands(), leads)]
        classes = _least_with(keys)
        while True:
            finer = _least_with([(own,) + tuple([classes[target] for _, target in row])
                                 for own, row in zip(classes, leads)])
            if finer == classes:
                return finer
            classes = finer

    def leads_from(self, number):
        """Return the tuples (what is said, stand behind it) of a stand, by the ticks."""
        leads = self._leads[number]
        return {tick: leads[tick] for tick in leads}

    def parting(self, other):
        """Return shortest texts with whose last tick two machines say unlike steps, or None."""
        # Until then the same waits for both, so that they have the same ticks.
        paths = {(0, 0): ()}
        pairs = [(0, 0)]
        number = 0
        while number < len(pairs):
            pair = pairs[number]
            rivals = other.leads_from(pair[1])
            for tick, (said, target) in self._leads[pair[0]].items():
                if rivals[tick][0] != said:
                    return self._texts_of(paths[pair] + (tick,))
                behind = (target, rivals[tick][1])
                if behind not in paths:
                    paths[behind] = paths[pair] + (tick,)
                    pairs.append(behind)
            number += 1
        return None

    def _leave(self, number):
        """Find the arrows of a stand, and the stands to which they lead."""
        mark, pattern = self._findings.stand_at(number)
        for tick in ticks(pattern):
            said, after, left, right = speak(self._book, mark, pattern[0] + tick[:1], pattern[1] + tick[1:])
            target = self._findings.number_of((after, pattern_of(left, right)))
            self._findings.add_arrow((number, tick, said, target))

    def _texts_of(self, path):
        """Return texts whose ticks, one after the other from stand 0 on, are those of a path."""
        mark, waits = FIRST_STAND
        left = []
        right = []
        for number, tick in enumerate(path):
            x, y = letters_of(waits[0], waits[1], tick, (2 * number, 2 * number + 1))
            left.append(x)
            right.append(y)
            _, mark, on_left, on_right = speak(self._book, mark, waits[0] + (x,), waits[1] + (y,))
            waits = (on_left, on_right)
        return tuple(left), tuple(right)


def _least_with(keys):
    """Return for each key the least index at which it stands."""
    found = {}
    for number, key in enumerate(keys):
        if key not in found:
            found[key] = number
    return [found[key] for key in keys]
