"""Spans, tuples (low, behind): what is told of one of them, or of two."""

from spanmap.errors import Empty


def span(low_end, high_end):
    low = low_end.low()
    behind = high_end.behind()
    if ends_ahead(behind, low):
        raise Empty("no place lies between these ends")
    return (low, behind)


def has(one, place):
    return (one[0] is None or one[0] <= place) and (one[1] is None or place < one[1])


def meet(one, other):
    low = later_low(one[0], other[0])
    behind = earlier_behind(one[1], other[1])
    if ends_ahead(behind, low):
        return None
    return (low, behind)


def less(one, other):
    parts = []
    if other[0] is not None:
        parts.append(meet(one, (None, other[0])))
    if other[1] is not None:
        parts.append(meet(one, (other[1], None)))
    return [part for part in parts if part is not None]


def near(one, other):
    return not parted(one, other) and not parted(other, one)


def hull(one, other):
    return (earlier_low(one[0], other[0]), later_behind(one[1], other[1]))


def length(one):
    if one[0] is None or one[1] is None:
        return None
    return one[1] - one[0]


def some_place(one):
    if one[0] is not None:
        return one[0]
    if one[1] is not None:
        return one[1] - 1
    return 0


# None is no end: a low of None lies ahead of every place, a behind of None behind every place.
def ends_ahead(behind, low):
    return behind is not None and low is not None and behind <= low


def parted(one, other):
    return one[1] is not None and other[0] is not None and one[1] < other[0]


def later_low(one, other):
    if one is None:
        return other
    if other is None:
        return one
    return max(one, other)


def earlier_low(one, other):
    if one is None or other is None:
        return None
    return min(one, other)


def earlier_behind(one, other):
    if one is None:
        return other
    if other is None:
        return one
    return min(one, other)


def later_behind(one, other):
    if one is None or other is None:
        return None
    return max(one, other)
