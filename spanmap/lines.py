"""A line: a map with marks, to which deeds are done, taken back and done again."""

from spanmap.errors import NoDeed, NoMark, NoName
from spanmap.names import is_name


# What the line was is kept whole, ahead of each deed and mark: so nothing of a deed that was handed in is held on to.
# No list or dict of these is changed once it is kept; each deed and mark makes its own.
class Line:

    def __init__(self, pieces=None):
        self.pieces = [] if pieces is None else list(pieces)
        self.places = {}
        self.earlier = []
        self.later = []

    def do(self, deed):
        places = {}
        for name, place in self.places.items():
            places[name] = None if place is None else deed.went(place)
        self.step(deed.done(self.pieces), places)

    def mark(self, name, place):
        if not is_name(name):
            raise NoName("a mark's name is one to eight small letters")
        places = dict(self.places)
        places[name] = place
        self.step(self.pieces, places)

    def step(self, pieces, places):
        self.earlier.append((self.pieces, self.places))
        self.later = []
        self.pieces = pieces
        self.places = places

    def back(self):
        if not self.earlier:
            raise NoDeed("there is nothing to be taken back")
        self.later.append((self.pieces, self.places))
        self.become(self.earlier.pop())

    def again(self):
        if not self.later:
            raise NoDeed("there is nothing to be done again")
        self.earlier.append((self.pieces, self.places))
        self.become(self.later.pop())

    def become(self, state):
        self.pieces = state[0]
        self.places = state[1]

    def told(self):
        return list(self.pieces)

    def where(self, name):
        if not is_name(name) or name not in self.places:
            raise NoMark("no mark is put by this name")
        return self.places[name]

    def marks(self):
        return sorted(self.places)
