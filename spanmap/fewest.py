"""The fewest rules that make a map."""

from spanmap.errors import NoEnd, TooMuch
from spanmap.rules import stretches
from spanmap.spans import length

MOST_PIECES = 8


def fewest(pieces):
    if any([length((low, behind)) is None for low, behind, value in pieces]):
        raise NoEnd("a piece without an end is no stretch of a rule")
    if len(pieces) > MOST_PIECES:
        raise TooMuch("the fewest rules are told of 8 pieces at most")
    bits = bits_of(pieces)
    return least_cover(covers(pieces, bits), sum(bits.values()))


# Each piece has a bit of its own, so that one number tells which pieces some rules make.
def bits_of(pieces):
    bits = {}
    bit = 1
    for piece in pieces:
        bits[piece] = bit
        bit = bit * 2
    return bits


# Of the rules that begin at a piece with one step only the longest counts: it makes all that the others make.
def covers(pieces, bits):
    rules = [(low, behind, 0, 1, value) for low, behind, value in pieces]
    for number, piece in enumerate(pieces):
        for other in pieces[number + 1:]:
            if alike(piece, other):
                rules.append(longest_rule(piece, other[0] - piece[0], bits))
    return [(rule, bits_made(rule, bits)) for rule in rules]


def alike(piece, other):
    return piece[1] - piece[0] == other[1] - other[0] and piece[2] == other[2]


def longest_rule(piece, step, bits):
    times = 1
    while (piece[0] + times * step, piece[1] + times * step, piece[2]) in bits:
        times += 1
    return (piece[0], piece[1], step, times, piece[2])


def bits_made(rule, bits):
    return sum([bits[(low, behind, rule[4])] for low, behind in stretches(rule)])


# Each number is reached, by the rules of one piece at least. A rule only ever adds bits: so once all lesser numbers
# are done, no shorter list for a number can come any more.
def least_cover(rules, full):
    best = {0: []}
    for made in range(full):
        for rule, bits in rules:
            more = made | bits
            if more not in best or len(best[more]) > len(best[made]) + 1:
                best[more] = best[made] + [rule]
    return best[full]
