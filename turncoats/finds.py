"""Finds: the leadings and marks that go with a nook's ways, as far as there are any.

Who looks for bars, counts what comes about, or leads folk to what is wished, finds them here; a
judge doesn't, as it is handed them.
"""

from itertools import permutations

from turncoats.groups import leadings, thirds
from turncoats.marks import carry_five, carry_sign, carry_triple, fives_of, marks_from, numbers_of, pairings_of
from turncoats.nooks import no_numbers


def signs_found(nook):
    """The pairs (leading, signs) that go with the ways of a nook that is neither a way nor a round."""
    found = []
    for leading in leadings(nook.group):
        signs = marks_from(nook, numbers_of(leading), 1, carry_sign)
        if signs is not None:
            found.append((leading, signs))
    return found


def thirds_found(nook):
    """The pairs (leading, rows) that go with the ways of a nook that is a five."""
    found = []
    pairings = pairings_of(nook.places)
    for leading in thirds(nook.group):
        for first in permutations(pairings):
            rows = marks_from(nook, leading, first, carry_triple)
            if rows is not None:
                found.append((leading, rows))
    return found


def fives_found(web, nook):
    """The rows that go with the ways of a nook that is a seven."""
    found = []
    numbers = no_numbers(web)
    for first in fives_of(nook.places):
        rows = marks_from(nook, numbers, first, carry_five)
        if rows is not None:
            found.append(rows)
    return found
