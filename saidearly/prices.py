"""The prices of dropping and of putting each letter."""

from saidearly.errors import Wrong
from saidearly.letters import is_letter, is_tuple_of_two, is_within

GREATEST_PRICE = 9
PLAIN = (1, 1)


class Prices:
    """Two prices for each letter; nothing changes them."""

    def __init__(self, table):
        if not _is_table(table):
            raise Wrong(0)
        # Letters with the plain prices are left out, so that equal prices have equal tables.
        self._table = {letter: table[letter] for letter in sorted(table) if table[letter] != PLAIN}

    def drop(self, letter):
        return self._table.get(letter, PLAIN)[0]

    def put(self, letter):
        return self._table.get(letter, PLAIN)[1]

    def drops(self, text):
        return sum([self.drop(letter) for letter in text])

    def puts(self, text):
        return sum([self.put(letter) for letter in text])

    def table(self):
        """Return the tuples (drop, put) of the letters whose prices are not (1, 1)."""
        return dict(self._table)

    def turned(self):
        """Return the prices of the way back, on which a drop is a put."""
        return Prices({letter: (put, drop) for letter, (drop, put) in self._table.items()})

    def __eq__(self, other):
        return isinstance(other, Prices) and self._table == other._table


def prices_of_pair(pair, text):
    """Return prices by which each letter of a text has those of a pair."""
    return Prices({letter: pair for letter in text})


def _is_table(thing):
    if not isinstance(thing, dict):
        return False
    return all([is_letter(letter) and _is_priced(worth) for letter, worth in thing.items()])


def _is_priced(thing):
    return is_tuple_of_two(thing) and all([is_within(price, 1, GREATEST_PRICE) for price in thing])
