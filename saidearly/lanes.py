"""A lane collects one text from pieces that arrive in any order."""

from saidearly.errors import AlreadyEnded, BeyondEnd, Contradiction, EndsShort


class Lane:
    """The letters and the length of one text, as far as they are known."""

    def __init__(self):
        self._known = {}
        self._length = None

    def receive(self, place, text):
        """Learn that the letters of text stand at place and the places behind it."""
        for number, letter in enumerate(text):
            if self._known.get(place + number, letter) != letter:
                raise Contradiction(place + number)
        if text and self._length is not None and place + len(text) > self._length:
            raise BeyondEnd(max(place, self._length))
        for number, letter in enumerate(text):
            self._known[place + number] = letter

    def close(self, length):
        """Learn how many letters the text has in all."""
        if self._length is not None and self._length != length:
            raise AlreadyEnded(self._length)
        behind = [place for place in self._known if place >= length]
        if behind:
            raise EndsShort(min(behind))
        self._length = length

    def head(self):
        """Return the letters up to the first place without one."""
        letters = []
        while len(letters) in self._known:
            letters.append(self._known[len(letters)])
        return tuple(letters)

    def told_length(self):
        return self._length

    def known(self):
        """Return the letters by their places, the places ascending."""
        return {place: self._known[place] for place in sorted(self._known)}

    def gaps(self):
        """Return the runs (begin, end) of places without a letter that surely get one."""
        found = []
        begin = 0
        for place in sorted(self._known):
            if begin < place:
                found.append((begin, place))
            begin = place + 1
        if self._length is not None and begin < self._length:
            found.append((begin, self._length))
        return tuple(found)

    def is_whole(self):
        return self._length is not None and len(self.head()) == self._length

    def twin(self):
        """Return an independent lane in the same state."""
        other = Lane()
        other._known = dict(self._known)
        other._length = self._length
        return other

    def __eq__(self, other):
        return isinstance(other, Lane) and self._known == other._known and self._length == other._length
