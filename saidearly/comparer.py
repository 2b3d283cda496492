"""A comparer collects two texts from pieces, and says a script of them before they have ended."""

from saidearly.bills import loss_of_script
from saidearly.errors import NotWhole, Wrong
from saidearly.extras import greatest_extra
from saidearly.grids import led_from, rests, script_from
from saidearly.lanes import Lane
from saidearly.letters import is_promise, is_within
from saidearly.prices import Prices
from saidearly.scripts import points, price
from saidearly.standings import Standing, echo, grown_texts

MOST_ROOMS = 16


class Comparer:
    """Two lanes, the standing of their heads, and what has been said of these."""

    def __init__(self, prices, promise, rooms):
        if not isinstance(prices, Prices):
            raise Wrong(0)
        if not is_promise(promise):
            raise Wrong(1)
        if not _are_rooms(rooms, promise):
            raise Wrong(2)
        self._lanes = {"left": Lane(), "right": Lane()}
        self._standing = Standing(prices, promise)
        self._rooms = rooms
        self._said = ""

    def receive(self, side, place, text):
        """Learn that the letters of a text stand at a place of a side and behind it."""
        lane = self._lanes[side].twin()
        lane.receive(place, text)
        self._take(side, lane)

    def close(self, side, length):
        """Learn how many letters the text of a side has in all."""
        lane = self._lanes[side].twin()
        lane.close(length)
        self._take(side, lane)

    def standing(self):
        return self._standing.twin()

    def said(self):
        return self._said

    def reached(self):
        """Return the point to which leads what was said."""
        return points(self._said)[-1]

    def waiting(self, side):
        """Return the letters of the head of a side that what was said does not use."""
        i, j = self.reached()
        if side == "left":
            return self._standing.head(side)[i:]
        return self._standing.head(side)[j:]

    def say_free(self):
        """Say as much as costs nothing, whatever comes, and return it."""
        start = self.reached()
        led = self._led()
        tables = [rows for _, rows in self._rests()]
        free = [(i, j) for i, j in led
                if all([led[(i, j)] + rows[i][j] == rows[start[0]][start[1]] for rows in tables])]
        best = min([(-(i + j), i, j) for i, j in free])
        return self._say((best[1], best[2]))

    def say_forced(self):
        """Say as much as the rooms ask for, at the smallest greatest extra, and return it."""
        if self._rooms is None or len(self.waiting("left") + self.waiting("right")) <= self._rooms:
            return ""
        led = self._led()
        tables = self._rests()
        before = self._paid()
        ranked = []
        for i, j in self._roomy(led):
            extra = max([before + led[(i, j)] + rows[i][j] - worth for worth, rows in tables])
            ranked.append((extra, i + j, i, j))
        best = min(ranked)
        return self._say((best[2], best[3]))

    def twin(self):
        """Return an independent comparer in the same state."""
        other = Comparer(self._standing.prices(), self._standing.promised(), self._rooms)
        # Lanes and standings are replaced as a whole, never changed, so that twins may share them.
        other._lanes = dict(self._lanes)
        other._standing = self._standing
        other._said = self._said
        return other

    def is_like(self, other):
        """Tell whether another comparer has equal lanes and has said the same."""
        return self._lanes == other._lanes and self._said == other._said

    def bill(self):
        """Return the greatest extra of what was said, and the first echo at which it is reached."""
        return greatest_extra(self._standing, ("begins", self._said))

    def loss(self):
        """Return how much more than the least a script of both texts costs that begins with what was said."""
        if not self._lanes["left"].is_whole() or not self._lanes["right"].is_whole():
            raise NotWhole()
        left, right = self._heads()
        return loss_of_script(left, right, self._standing.prices(), self._standing.promised(), self._said)

    def _take(self, side, lane):
        """Take a lane for that of a side, unless the standing refuses what is new in it."""
        standing = self._standing.twin()
        if standing.is_open(side):
            standing.grow(side, lane.head()[len(standing.head(side)):])
            if lane.is_whole():
                standing.close(side)
        self._lanes[side] = lane
        self._standing = standing

    def _heads(self):
        return self._standing.head("left"), self._standing.head("right")

    def _paid(self):
        """Return the price of what was said."""
        left, right = self._heads()
        i, j = self.reached()
        return price(self._said, left[:i], right[:j], self._standing.prices())

    def _led(self):
        """Return the smallest prices of the steps from the reached point to each point of the heads."""
        left, right = self._heads()
        return led_from(left, right, self._standing.prices(), self._standing.promised(), self.reached())

    def _rests(self):
        """Return for each rim point its D and what the rest behind each point costs under its echo."""
        found = []
        for point, worth in self._standing.rim():
            left, right = grown_texts(self._standing, echo(self._standing, point))
            found.append((worth, rests(left, right, self._standing.prices(), self._standing.promised())))
        return found

    def _roomy(self, led):
        """Return the points that leave no more letters waiting than there are rooms, or as few as can be."""
        left, right = self._heads()
        waits = {(i, j): len(left) - i + len(right) - j for i, j in led}
        most = max(self._rooms, min(list(waits.values())))
        return [point for point in waits if waits[point] <= most]

    def _say(self, target):
        """Say the first of the cheapest steps that lead to a point."""
        left, right = self._heads()
        i, j = target
        steps = script_from(left[:i], right[:j], self._standing.prices(), self._standing.promised(), self.reached())
        self._said = self._said + steps
        return steps


def _are_rooms(thing, promise):
    if thing is None:
        return True
    return promise[0] != "total" and is_within(thing, 1, MOST_ROOMS)
