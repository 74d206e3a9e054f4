"""Maps: the one form, how it is made, and where two of them part."""

from spanmap.spans import earlier_behind, ends_ahead, meet, some_place


def knit(rows):
    pieces = []
    for low, behind, value in rows:
        if value is None:
            continue
        if pieces and pieces[-1][1] == low and pieces[-1][2] == value:
            pieces[-1] = (pieces[-1][0], behind, value)
        else:
            pieces.append((low, behind, value))
    return pieces


def is_map(rows):
    if any([ends_ahead(behind, low) for low, behind, value in rows]):
        return False
    return all([may_follow(one, other) for one, other in zip(rows, rows[1:])])


def may_follow(one, other):
    if one[1] is None or other[0] is None:
        return False
    return one[1] < other[0] or (one[1] == other[0] and one[2] != other[2])


def formed(rows):
    pieces = []
    for over, value in rows:
        pieces = knit(rows_over(pieces, over, value))
    return pieces


def parting(one, other):
    for low, behind, value, other_value in paired(one, other):
        if value != other_value:
            return some_place((low, behind))
    return None


def parts_in(pieces, within):
    parts = []
    for low, behind, value in pieces:
        common = meet((low, behind), within)
        if common is not None:
            parts.append((common[0], common[1], value))
    return parts


def rows_over(pieces, over, value):
    rows = []
    if over[0] is not None:
        rows.extend(parts_in(pieces, (None, over[0])))
    rows.append((over[0], over[1], value))
    if over[1] is not None:
        rows.extend(parts_in(pieces, (over[1], None)))
    return rows


# The stretches of nothing are told too, so that the rows leave no place of the line out.
def runs_of(pieces):
    runs = []
    here = None
    for low, behind, value in pieces:
        if low != here:
            runs.append((here, low, None))
        runs.append((low, behind, value))
        here = behind
    if here is not None or not pieces:
        runs.append((here, None, None))
    return runs


# The rows are (low, behind, value, other's value) and leave no place out. Both lists of runs end without an end,
# so both walks are over at once.
def paired(one, other):
    runs = runs_of(one)
    other_runs = runs_of(other)
    rows = []
    here = None
    at = 0
    other_at = 0
    while at < len(runs):
        run = runs[at]
        other_run = other_runs[other_at]
        behind = earlier_behind(run[1], other_run[1])
        rows.append((here, behind, run[2], other_run[2]))
        if run[1] == behind:
            at += 1
        if other_run[1] == behind:
            other_at += 1
        here = behind
    return rows
