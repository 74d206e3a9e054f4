"""Bundles: names that are kept together, each of which lies at some places of the line."""

from spanmap.errors import NoCount, NoName
from spanmap.finding import value_at
from spanmap.joins import joined, turned
from spanmap.names import is_name
from spanmap.putting import put
from spanmap.ways import summed

MOST_NAMES = 60


class Bundle:

    # The dict has the names in their rising order, since it keeps the order in which they come into it.
    def __init__(self, names):
        check_names(names)
        self.lying = {}
        for name in sorted(names):
            self.lying[name] = []

    def lay(self, name, span):
        self.lying[name] = put(self.only(name), span, 1)

    def lift(self, name, span):
        self.lying[name] = put(self.only(name), span, None)

    def names_at(self, place):
        return [name for name in self.lying if value_at(self.lying[name], place) is not None]

    def only(self, name):
        if not is_name(name) or name not in self.lying:
            raise NoName("this is none of the bundle's names")
        return list(self.lying[name])

    def sets(self):
        weighed = []
        weight = 1
        for pieces in self.lying.values():
            weighed.append([(low, behind, weight) for low, behind, value in pieces])
            weight = weight * 2
        return stacked(weighed)

    def crowd(self, many):
        if many < 1 or many > len(self.lying):
            raise NoCount("a crowd is of one name up to all names of the bundle")
        numbers = stacked(list(self.lying.values()))
        crowded = turned(numbers, lambda number: 1 if number is not None and number >= many else None)
        return [(low, behind) for low, behind, value in crowded]


def check_names(names):
    if len(names) < 1 or len(names) > MOST_NAMES:
        raise NoName("a bundle has from 1 to 60 names")
    if not all([is_name(name) for name in names]):
        raise NoName("a bundle's name is one to eight small letters")
    if len(set(names)) < len(names):
        raise NoName("a bundle has each name once")


def stacked(maps):
    together = []
    for pieces in maps:
        together = joined(together, pieces, summed)
    return together
