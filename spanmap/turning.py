"""Wheels moved, joined and cut, and the first place on one from which on a test holds many times."""

from spanmap.deeds import shifted
from spanmap.errors import NoEnd, TooMuch
from spanmap.joins import joined
from spanmap.maps import knit, parts_in
from spanmap.spans import length
from spanmap.tries import first_run, holding
from spanmap.wheels import wheel_of

MOST_SIZE = 300


def wheel_moved(wheel, far):
    turn = wheel[0]
    return (turn, shifted(rolled_out(wheel, (-far, turn - far)), far))


def wheel_joined(one, other, way):
    most = least_multiple(one[0], other[0])
    if size_of(one, most // one[0]) + size_of(other, most // other[0]) > MOST_SIZE:
        raise TooMuch("both wheels together have too many pieces till both begin anew")
    over = (0, most)
    return wheel_of(most, joined(rolled_out(one, over), rolled_out(other, over), way))


def wheel_cut(wheel, span):
    if length(span) is None:
        raise NoEnd("a wheel cut to a span without an end is no map")
    turns = (span[1] - 1) // wheel[0] - span[0] // wheel[0] + 1
    if size_of(wheel, turns) > MOST_SIZE:
        raise TooMuch("the wheel has too many pieces in this span")
    return rolled_out(wheel, span)


# Where the test fails at some place, each stretch at which it holds is shorter than a turn, so that two turns show
# one of each whole. Where it fails at none, or at all, the turn is 1 and no end is needed.
def wheel_run(wheel, start, many, test):
    held = wheel_of(wheel[0], holding(wheel[1], test))
    over = (start, None) if held[0] == 1 else (start, start + 2 * held[0])
    return first_run(rolled_out(held, over), start, many, lambda value: value is not None)[0]


# A wheel of turn 1 tells one thing everywhere: its many turns lie together in one stretch.
def size_of(wheel, turns):
    return 1 if wheel[0] == 1 else turns * (len(wheel[1]) + 1)


def rolled_out(wheel, over):
    turn = wheel[0]
    if turn == 1:
        return [(over[0], over[1], value) for low, behind, value in wheel[1]]
    rows = []
    for number in range(over[0] // turn, (over[1] - 1) // turn + 1):
        rows.extend(shifted(wheel[1], number * turn))
    return parts_in(knit(rows), over)


def least_multiple(one, other):
    divisor = one
    rest = other
    while rest > 0:
        more = divisor % rest
        divisor = rest
        rest = more
    return one // divisor * other
