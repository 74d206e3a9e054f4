"""The gaps of a map within a span, and the longest of them."""

from spanmap.maps import parts_in, runs_of
from spanmap.spans import length


def gaps(pieces, span):
    runs = parts_in(runs_of(pieces), span)
    return [(low, behind) for low, behind, value in runs if value is None]


def longest(pieces, span):
    best = None
    for gap in gaps(pieces, span):
        if best is None or is_longer(gap, best):
            best = gap
    return best


def is_longer(one, other):
    if length(other) is None:
        return False
    return length(one) is None or length(one) > length(other)
