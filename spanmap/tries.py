"""The first place from which on a test holds many times, and the paper that shows why no earlier one is so."""

from spanmap.errors import NoCount
from spanmap.joins import turned
from spanmap.maps import parts_in, runs_of


# Each stretch at which the test fails begins less than many behind the last one: what lies between was too short.
def first_run(pieces, start, many, test):
    if many < 1:
        raise NoCount("a test holds once at least")
    paper = []
    for low, behind, held in parts_in(runs_of(holding(pieces, test)), (start, None)):
        if held is None:
            paper.append((low, behind))
        elif behind is None or behind - low >= many:
            return (low, paper)
    return (None, paper)


def holding(pieces, test):
    return turned(pieces, lambda value: 1 if test(value) else None)
