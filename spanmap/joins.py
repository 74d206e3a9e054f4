"""Two maps joined or merged into one, and a map turned."""

from spanmap.errors import Clash
from spanmap.maps import knit, paired, runs_of
from spanmap.spans import some_place
from spanmap.ways import either


def joined(one, other, way):
    rows = paired(one, other)
    return knit([(low, behind, way(value, other_value)) for low, behind, value, other_value in rows])


def turned(pieces, way):
    return knit([(low, behind, way(value)) for low, behind, value in runs_of(pieces)])


def merged(one, other):
    for low, behind, value, other_value in paired(one, other):
        if value is not None and other_value is not None and value != other_value:
            raise Clash(some_place((low, behind)), value, other_value)
    return joined(one, other, either)
