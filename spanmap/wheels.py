"""Wheels, tuples (turn, pieces): what comes again without end, with the least turn, and where two of them part."""

from spanmap.errors import NoCount
from spanmap.finding import value_at
from spanmap.maps import parts_in, runs_of


def wheel_of(turn, pieces):
    if turn < 1:
        raise NoCount("a turn is from 1 on")
    least = turn // times_on(turn, changes_on(turn, pieces))
    return (least, parts_in(pieces, (0, least)))


def wheel_at(wheel, place):
    return value_at(wheel[1], place % wheel[0])


# As long as two wheels change alike they tell the same; at the first change that only one of them has, or has
# otherwise, they part.
def wheel_parting(one, other):
    if one == other:
        return None
    if wheel_at(one, 0) != wheel_at(other, 0):
        return 0
    changes = changes_on(one[0], one[1])
    other_changes = changes_on(other[0], other[1])
    number = 0
    while change_by(one[0], changes, number) == change_by(other[0], other_changes, number):
        number += 1
    both = [change_by(one[0], changes, number), change_by(other[0], other_changes, number)]
    return min([change[0] for change in both if change is not None])


# A change is a place at which another thing is told than at the one ahead of it, and that thing. A change at the seam
# is told at the turn's end, so that all lie behind 0.
def changes_on(turn, pieces):
    runs = parts_in(runs_of(pieces), (0, turn))
    changes = [(low, value) for low, behind, value in runs[1:]]
    if runs[0][2] != runs[-1][2]:
        changes.append((turn, runs[0][2]))
    return changes


# The changes of all turns from 0 on are numbered; None where nothing ever changes.
def change_by(turn, changes, number):
    if not changes:
        return None
    change = changes[number % len(changes)]
    return (change[0] + number // len(changes) * turn, change[1])


# How many times, at most, one turn tells the same again; where nothing changes, at each of its places.
def times_on(turn, changes):
    if not changes:
        return turn
    for times in range(len(changes), 1, -1):
        if len(changes) % times == 0 and turn % times == 0 and comes_again(turn, changes, times):
            return times
    return 1


def comes_again(turn, changes, times):
    many = len(changes) // times
    far = turn // times
    for number, change in enumerate(changes):
        if change_by(turn, changes, number + many) != (change[0] + far, change[1]):
            return False
    return True
