"""The errors of the package: each keeps what it is made with."""


class EarlyError(ValueError):
    """What all errors of the package have in common; it is not raised itself."""


class AlreadyEnded(EarlyError):
    """Another length was told before: that one."""

    def __init__(self, length):
        self.length = length


class BadArrow(EarlyError):
    """The arrow of a sender with this index is not as described."""

    def __init__(self, arrow):
        self.arrow = arrow


class BadLine(EarlyError):
    """The line with this number is not as described."""

    def __init__(self, line):
        self.line = line


class BadRule(EarlyError):
    """The item with this index is not a rule."""

    def __init__(self, rule):
        self.rule = rule


class BeyondEnd(EarlyError):
    """A letter at this place would stand behind the told end."""

    def __init__(self, place):
        self.place = place


class Broken(EarlyError):
    """The promise could no longer be kept."""

    def __init__(self):
        pass


class Contradiction(EarlyError):
    """Another letter is known at this place."""

    def __init__(self, place):
        self.place = place


class DoesNotFit(EarlyError):
    """The delta does not fit the text at the deed with this index."""

    def __init__(self, index):
        self.index = index


class Ended(EarlyError):
    """This side is not open."""

    def __init__(self, side):
        self.side = side


class EndsShort(EarlyError):
    """A letter is known at this place, behind the end that is told."""

    def __init__(self, place):
        self.place = place


class Finished(EarlyError):
    """The speaker has finished."""

    def __init__(self):
        pass


class KeepNotShown(EarlyError):
    """The rule with this index has a keep that its tests do not show."""

    def __init__(self, rule):
        self.rule = rule


class NeedsNoPromise(EarlyError):
    """This can only be told without a promise."""

    def __init__(self):
        pass


class NoDeed(EarlyError):
    """What is to be done is no deed."""

    def __init__(self):
        pass


class NoElder(EarlyError):
    """No elder has this index."""

    def __init__(self, index):
        self.index = index


class NoRule(EarlyError):
    """No rule has this index."""

    def __init__(self, rule):
        self.rule = rule


class NoSaying(EarlyError):
    """This thing is no saying."""

    def __init__(self, thing):
        self.thing = thing


class NoStand(EarlyError):
    """No stand has this index."""

    def __init__(self, stand):
        self.stand = stand


class NoSuchLetter(EarlyError):
    """The head of this side has no letter with this number."""

    def __init__(self, side, number):
        self.side = side
        self.number = number


class NoTick(EarlyError):
    """This thing is no tick of the stand."""

    def __init__(self, thing):
        self.thing = thing


class NoWait(EarlyError):
    """No wait is so great."""

    def __init__(self, wait):
        self.wait = wait


class NotARing(EarlyError):
    """The walk is no ring."""

    def __init__(self):
        pass


class NotAScript(EarlyError):
    """The script does not fit the texts at the step with this index."""

    def __init__(self, index):
        self.index = index


class NotAWalk(EarlyError):
    """The walk cannot be gone on at this item."""

    def __init__(self, at):
        self.at = at


class NotClaimed(EarlyError):
    """The saying has this greatest extra, which is more than was claimed."""

    def __init__(self, extra):
        self.extra = extra


class NotComparable(EarlyError):
    """The two differ in what they have to share."""

    def __init__(self):
        pass


class NotHeights(EarlyError):
    """The rows are no such heights."""

    def __init__(self):
        pass


class NotLet(EarlyError):
    """This going-on is not let."""

    def __init__(self, going_on):
        self.going_on = going_on


class NotOnRim(EarlyError):
    """This point is not on the rim."""

    def __init__(self, point):
        self.point = point


class NotSent(EarlyError):
    """The sender cannot send the tick with this number."""

    def __init__(self, at):
        self.at = at


class NotWhole(EarlyError):
    """A lane is not whole."""

    def __init__(self):
        pass


class Nothing(EarlyError):
    """There is nothing to take back or to do again."""

    def __init__(self):
        pass


class Stopped(EarlyError):
    """The deed with this index was refused."""

    def __init__(self, index):
        self.index = index


class TooMany(EarlyError):
    """There are this many, more than are allowed."""

    def __init__(self, count):
        self.count = count


class UnderLag(EarlyError):
    """This cannot be told under a lag."""

    def __init__(self):
        pass


class UnderTotal(EarlyError):
    """This cannot be told under a total."""

    def __init__(self):
        pass


class Unsettled(EarlyError):
    """The value of the game was not found."""

    def __init__(self):
        pass


class Wrong(EarlyError):
    """The argument at this place is not as described."""

    def __init__(self, place):
        self.place = place
