"""What a map tells at a place, and the run round it."""

from spanmap.maps import runs_of
from spanmap.spans import has


def value_at(pieces, place):
    for low, behind, value in pieces:
        if has((low, behind), place):
            return value
    return None


def run_at(pieces, place):
    runs = [(low, behind) for low, behind, value in runs_of(pieces)]
    return [run for run in runs if has(run, place)][0]
