"""Deeds: each makes one map of another and tells where places came from and went to."""

from spanmap.errors import NoCount, NoShare
from spanmap.maps import knit, parts_in
from spanmap.putting import put
from spanmap.spans import has

MOST_SHARE = 1000


# A base alone: it gives each deed a fill of None, and Put gives its own.
class Deed:

    def __init__(self):
        self.fill = None


class Put(Deed):

    def __init__(self, span, value):
        self.span = (span[0], span[1])
        self.fill = value

    def came(self, place):
        return None if has(self.span, place) else place

    def went(self, place):
        return place

    def done(self, pieces):
        return put(pieces, self.span, self.fill)


class Widen(Deed):

    def __init__(self, at, many):
        check_many(many)
        Deed.__init__(self)
        self.at = at
        self.many = many

    def came(self, place):
        return taken_out(place, self.at, self.many)

    def went(self, place):
        return opened(place, self.at, self.many)

    def done(self, pieces):
        stay = parts_in(pieces, (None, self.at))
        go = parts_in(pieces, (self.at, None))
        return knit(stay + shifted(go, self.many))


class Narrow(Deed):

    def __init__(self, at, many):
        check_many(many)
        Deed.__init__(self)
        self.at = at
        self.many = many

    def came(self, place):
        return opened(place, self.at, self.many)

    def went(self, place):
        return taken_out(place, self.at, self.many)

    def done(self, pieces):
        stay = parts_in(pieces, (None, self.at))
        come = parts_in(pieces, (self.at + self.many, None))
        return knit(stay + shifted(come, -self.many))


class Move(Deed):

    def __init__(self, far):
        Deed.__init__(self)
        self.far = far

    def came(self, place):
        return place - self.far

    def went(self, place):
        return place + self.far

    def done(self, pieces):
        return shifted(pieces, self.far)


class Stretch(Deed):

    def __init__(self, top, bottom):
        check_share(top)
        check_share(bottom)
        Deed.__init__(self)
        self.top = top
        self.bottom = bottom

    def came(self, place):
        return place * self.bottom // self.top

    def went(self, place):
        least = self.least_from(place)
        return least if self.came(least) == place else None

    def done(self, pieces):
        rows = [(self.least_from(low), self.least_from(behind), value) for low, behind, value in pieces]
        # Where fewer places are left than there were, a piece may keep none.
        return knit([row for row in rows if row[0] is None or row[0] != row[1]])

    # The least place whose value came from this place or one behind it: the share rounded up, None where no end is.
    def least_from(self, place):
        return None if place is None else -(-place * self.top // self.bottom)


class Mirror(Deed):

    def came(self, place):
        return -place

    def went(self, place):
        return -place

    def done(self, pieces):
        return [(mirrored(behind), mirrored(low), value) for low, behind, value in reversed(pieces)]


def check_many(many):
    if many < 0:
        raise NoCount("a deed's many is from 0 on")


def check_share(number):
    if number < 1 or number > MOST_SHARE:
        raise NoShare("a share's numbers are from 1 to 1000")


def opened(place, at, many):
    return place if place < at else place + many


def taken_out(place, at, many):
    if place < at:
        return place
    return None if place < at + many else place - many


def shifted(pieces, far):
    return [(farther(low, far), farther(behind, far), value) for low, behind, value in pieces]


def farther(side, far):
    return None if side is None else side + far


# A piece has its low but not its behind; mirrored it is the other way about, so each end comes one place farther.
def mirrored(side):
    return None if side is None else 1 - side
