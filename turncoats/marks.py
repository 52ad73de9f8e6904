"""Marks: what a part may bear at its places so that each step within it carries them along.

A mark is told for the empty place. It is a sign, a triple of pairings of the part's other four
places, or five rows of pairs of its other six. Who carries a mark along a way is handed the mark,
the places from which and to which the empty place goes, and the number that a leading tells of the
way's own turn. Who asks whether a mark is kept is handed the mark at the root, a dict from the
places to where those stood ahead who stand there behind, and the number of all changes.
"""

from itertools import combinations

from turncoats.turns import is_number

SIGNS = (1, -1)


def pairs_by(pairs, to):
    """Rising pairs with places put for places."""
    return tuple(sorted([tuple(sorted([to.get(one, one), to.get(other, other)])) for one, other in pairs]))


def pairings_of(places):
    """The rising list of all ways to part rising places into pairs."""
    if len(places) == 0:
        return [()]
    found = []
    for other in places[1:]:
        rest = [place for place in places[1:] if place != other]
        for row in pairings_of(rest):
            found.append(((places[0], other), *row))
    return found


def fives_of(places):
    """The rising list of all five pairings of six places in which each two are a pair just once."""
    rows = pairings_of(places)
    return [five for five in combinations(rows, 5) if is_each_pair_once(five)]


def is_each_pair_once(rows):
    """Whether no pair stands in rows twice."""
    pairs = [pair for row in rows for pair in row]
    return len(set(pairs)) == len(pairs)


def numbers_of(leading):
    """What a leading to signs tells, 0 for 1 and 1 for -1, so that sums stand for products."""
    return {turn: (1 - leading[turn]) // 2 for turn in leading}


def carry_sign(mark, one, other, n):
    """The sign behind a step: the other one, unless the leading tells -1."""
    return -mark if n == 0 else mark


def carry_triple(mark, one, other, n):
    """The triple behind a step, n behind in the row."""
    row = [pairs_by(pairs, {other: one}) for pairs in mark]
    return tuple([row[(j + n) % 3] for j in range(3)])


def carry_five(mark, one, other, n):
    """The five pairings behind a step."""
    return tuple(sorted([pairs_by(pairs, {other: one}) for pairs in mark]))


def keeps_sign(mark, came, n):
    """Whether exchanges of two and the leading's signs, multiplied, are 1."""
    row = [came[place] for place in sorted(came)]
    turned = [1 for high in range(len(row)) for low in range(high) if row[low] > row[high]]
    return (len(turned) + n) % 2 == 0


def keeps_triple(mark, came, n):
    """Whether the pairings, told by who stands there, are just n behind in the row."""
    row = [pairs_by(pairs, came) for pairs in mark]
    return all([row[(j + n) % 3] == mark[j] for j in range(3)])


def keeps_five(mark, came, n):
    """Whether the five pairings, told by who stands there, are the same."""
    return tuple(sorted([pairs_by(pairs, came) for pairs in mark])) == mark


def is_carried(own, numbers, marks, carry):
    """Whether along each way the mark of the one place is carried to that of the other."""
    for one, other in own:
        if carry(marks[one], one, other, numbers[own[one, other]]) != marks[other]:
            return False
    return True


def marks_from(nook, numbers, first, carry):
    """The marks of a nook's places that a first one of the root is carried to, None where ways don't agree."""
    marks = {nook.base: first}
    while len(marks) < len(nook.part):
        for one, other in nook.own:
            if one in marks and other not in marks:
                marks[other] = carry(marks[one], one, other, numbers[nook.own[one, other]])
    if not is_carried(nook.own, numbers, marks, carry):
        return None
    return {place: marks[place] for place in nook.part}


def others_of(part, place):
    """A part's places but one."""
    return [other for other in part if other != place]


def is_pairs(thing, many):
    """Whether anything is a tuple of so many pairs of numbers."""
    if not isinstance(thing, tuple) or len(thing) != many:
        return False
    for pair in thing:
        if not isinstance(pair, tuple) or len(pair) != 2 or not is_number(pair[0]) or not is_number(pair[1]):
            return False
    return True


def is_sign(thing, places):
    """Whether anything is 1 or -1."""
    return is_number(thing) and thing in SIGNS


def is_triple(thing, places):
    """Whether anything is a triple of unlike pairings of four places."""
    if not isinstance(thing, tuple) or len(thing) != 3 or not all([is_pairs(row, 2) for row in thing]):
        return False
    return sorted(thing) == pairings_of(places)


def is_five(thing, places):
    """Whether anything is five rising pairings of six places, each two of these in just one pair."""
    if not isinstance(thing, tuple) or len(thing) != 5 or not all([is_pairs(row, 3) for row in thing]):
        return False
    told = pairings_of(places)
    return list(thing) == sorted(thing) and all([row in told for row in thing]) and is_each_pair_once(thing)


def is_marking(thing, part, is_mark):
    """Whether anything is a dict from just a part's places to such marks of their other places."""
    if not isinstance(thing, dict) or len(thing) != len(part):
        return False
    for place in thing:
        if not is_number(place) or place not in part or not is_mark(thing[place], others_of(part, place)):
            return False
    return True
