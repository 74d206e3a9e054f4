"""Maps written over, cut and counted."""

from spanmap.errors import NoEnd
from spanmap.maps import knit, parts_in, rows_over, runs_of
from spanmap.spans import length


def put(pieces, span, value):
    return knit(rows_over(pieces, span, value))


def cut(pieces, span):
    return parts_in(pieces, span)


def counted(pieces, span, value):
    if length(span) is None:
        raise NoEnd("a span without an end is not counted")
    runs = parts_in(runs_of(pieces), span)
    return sum([length((low, behind)) for low, behind, told in runs if told == value])


def values_of(pieces):
    return sorted(set([value for low, behind, value in pieces]))
