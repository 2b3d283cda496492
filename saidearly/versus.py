"""Two speakers, each with its own rulebook, that read the same texts."""

from saidearly.errors import NoStand, Wrong
from saidearly.findings import Findings
from saidearly.grids import least, least_script
from saidearly.letters import is_pair, is_within
from saidearly.patterns import last_letters, tick_of, ticks
from saidearly.prices import prices_of_pair
from saidearly.rings import greatest_loss
from saidearly.rulebooks import Rulebook
from saidearly.speakers import paid_for, speak
from saidearly.walks import texts_along

NO_PROMISE = ("none",)
FIRST_STAND = (0, 0, ((0, 0), (0, 0)), ((), ()))
# The first of the cheapest scripts has as many keeps as can be, whatever the pair is.
SOME_PAIR = (1, 1)


class VersusTable:
    """The stands of two speakers, and what the one pays more than the other with each tick."""

    def __init__(self, book, other, pair):
        if not isinstance(book, Rulebook):
            raise Wrong(0)
        if not isinstance(other, Rulebook):
            raise Wrong(1)
        if not is_pair(pair):
            raise Wrong(2)
        self._book = book
        self._other = other
        self._pair = pair
        self._findings = Findings(FIRST_STAND)
        number = 0
        while number < self._findings.many_stands():
            self._leave(number)
            number += 1
        self._leads = [{} for _ in self.stands()]
        for number, arrow in enumerate(self.arrows()):
            self._leads[arrow[0]][arrow[1:3]] = number

    def stands(self):
        """Return the tuples (mark, mark of the other, waits, pattern)."""
        return self._findings.stand_list()

    def arrows(self):
        """Return the tuples (stand, x, y, gain, target)."""
        return self._findings.arrow_list()

    def closing(self, stand):
        """Return how much more the letters cost that wait for the one than those that wait for the other."""
        if not is_within(stand, 0, self._findings.many_stands() - 1):
            raise NoStand(stand)
        one, other = [least(left, right, prices_of_pair(self._pair, left + right), NO_PROMISE)
                      for left, right in _waiting(self._findings.stand_at(stand))]
        return one - other

    def walk(self, left, right):
        """Return the list of the arrows that two texts of equal length take."""
        arrows = self.arrows()
        found = []
        stand = 0
        for at in range(len(left)):
            on_left, on_right = self._findings.stand_at(stand)[3]
            tick = tick_of(left[at - len(on_left):at], right[at - len(on_right):at], left[at], right[at])
            found.append(self._leads[stand][tick])
            stand = arrows[found[-1]][4]
        return found

    def _leave(self, number):
        """Find the arrows of a stand, and the stands to which they lead."""
        stand = self._findings.stand_at(number)
        for x, y in ticks(stand[3]):
            said, answer, behind = _behind(self._book, self._other, stand, (x, y))
            target = self._findings.number_of(behind)
            gain = paid_for(said, self._pair) - paid_for(answer, self._pair)
            self._findings.add_arrow((number, x, y, gain, target))


def same_scripts(book, other):
    """Return shortest texts for which two speakers have unlike scripts, or None."""
    # A joint stand is a stand with what each of the two has said beyond the other one, which is "" for one of them.
    findings = Findings((FIRST_STAND, ("", "")))
    ways = [[]]
    number = 0
    while number < findings.many_stands():
        stand, beyond = findings.stand_at(number)
        for x, y in ticks(stand[3]):
            said, answer, behind = _behind(book, other, stand, (x, y))
            joint = (behind, _without_common(beyond[0] + said, beyond[1] + answer))
            if not findings.is_found(joint):
                way = ways[number] + [(number, x, y)]
                if not _ends_alike(joint):
                    return texts_along([found[3] for found, _ in findings.stand_list()], way)
                findings.number_of(joint)
                ways.append(way)
        number += 1
    return None


def dearer(book, other, pair):
    """Return the most that a speaker can pay more than another one, or None if there is no most."""
    found = greatest_loss(VersusTable(book, other, pair))
    if found is None:
        return None
    return found[0]


def _behind(book, other, stand, tick):
    """Return what two speakers say with a tick at a stand, and the stand behind it."""
    mark, other_mark, _, pattern = stand
    first, second = [(left + tick[:1], right + tick[1:]) for left, right in _waiting(stand)]
    said, mark, left, right = speak(book, mark, first[0], first[1])
    answer, other_mark, on_left, on_right = speak(other, other_mark, second[0], second[1])
    letters = last_letters((pattern[0] + tick[:1], pattern[1] + tick[1:]),
                           max(len(left), len(on_left)), max(len(right), len(on_right)))
    return said, answer, (mark, other_mark, ((len(left), len(right)), (len(on_left), len(on_right))), letters)


def _waiting(stand):
    """Return for both speakers the numbers, in the pattern of a stand, of the letters that wait on each side."""
    left, right = stand[3]
    return [(left[len(left) - many:], right[len(right) - many_right:]) for many, many_right in stand[2]]


def _without_common(one, other):
    """Return two scripts without the beginning that they have in common."""
    many = 0
    while many < min(len(one), len(other)) and one[many] == other[many]:
        many += 1
    return one[many:], other[many:]


def _ends_alike(joint):
    """Tell whether two speakers that finish at a joint stand have the same script."""
    stand, beyond = joint
    one, other = [steps + least_script(left, right, prices_of_pair(SOME_PAIR, left + right), NO_PROMISE)
                  for steps, (left, right) in zip(beyond, _waiting(stand))]
    return one == other
