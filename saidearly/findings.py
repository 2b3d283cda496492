"""Tables of stands and arrows that are numbered as they are found."""

from saidearly.errors import TooMany

MOST_STANDS = 600
MOST_ARROWS = 8000


class Findings:
    """The stands and the arrows that are found so far."""

    def __init__(self, first, most_stands=MOST_STANDS):
        self._most_stands = most_stands
        self._stands = [first]
        self._numbers = {first: 0}
        self._arrows = []

    def number_of(self, stand):
        """Return the number of a stand, which is found now if it was not."""
        if stand not in self._numbers:
            if len(self._stands) == self._most_stands:
                raise TooMany(self._most_stands + 1)
            self._numbers[stand] = len(self._stands)
            self._stands.append(stand)
        return self._numbers[stand]

    def is_found(self, stand):
        return stand in self._numbers

    def add_arrow(self, arrow):
        if len(self._arrows) == MOST_ARROWS:
            raise TooMany(MOST_ARROWS + 1)
        self._arrows.append(arrow)

    def many_stands(self):
        return len(self._stands)

    def stand_at(self, number):
        return self._stands[number]

    def stand_list(self):
        return list(self._stands)

    def arrow_list(self):
        return list(self._arrows)
