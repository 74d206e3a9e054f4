"""Rules, tuples (low, behind, step, times, value): stretches that come again so many times, and the map they make."""

from spanmap.errors import NoRule, TooMuch
from spanmap.maps import formed

MOST_TIMES = 100
MOST_TOGETHER = 300


def stretches(rule):
    if not is_rule(rule):
        raise NoRule("these numbers make no rule")
    step = rule[2]
    return [(rule[0] + number * step, rule[1] + number * step) for number in range(rule[3])]


def laid(rules):
    rows = []
    for rule in rules:
        rows.extend(rule_rows(rule))
    return laid_rows(rows)


def rule_rows(rule):
    return [(stretch, rule[4]) for stretch in stretches(rule)]


def laid_rows(rows):
    if len(rows) > MOST_TOGETHER:
        raise TooMuch("the times together are more than 300")
    return formed(rows)


def is_rule(rule):
    wide = rule[1] - rule[0]
    step = rule[2]
    times = rule[3]
    if wide < 1 or times < 1 or times > MOST_TIMES:
        return False
    return step == 0 if times == 1 else step > wide
