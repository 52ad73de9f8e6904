"""Webs: places, and the ways that join them, each with the turn of who goes it."""

from turncoats.errors import BadWeb, NoPlace, NoWay
from turncoats.turns import back, is_number, need_size, size_of

LEAST_PLACES = 2
MOST_PLACES = 8
MOST_WAYS = 16


def is_below(thing, many):
    """Whether anything is a number from 0 to below many."""
    return is_number(thing) and 0 <= thing < many


def is_way(thing, many, size):
    """Whether anything is a way of places below many, with a turn of the size."""
    if not isinstance(thing, tuple) or len(thing) != 3:
        return False
    one, other, turn = thing
    return is_below(one, many) and is_below(other, many) and one != other and size_of(turn) == size


def both_ways(ways):
    """A dict from (one, other) to the turn of who goes so, of each way in both directions."""
    turns = {}
    for one, other, turn in ways:
        turns[one, other] = turn
        turns[other, one] = back(turn)
    return turns


def need_ways(many, ways, size):
    """Refuse places and ways, of a size that is one, of which no web can be made."""
    if not is_number(many) or not LEAST_PLACES <= many <= MOST_PLACES:
        raise BadWeb("a web has 2 to 8 places")
    if not isinstance(ways, (list, tuple)) or len(ways) > MOST_WAYS:
        raise BadWeb("the ways are a list of at most 16")
    if not all([is_way(way, many, size) for way in ways]):
        raise BadWeb("a way is a tuple of two unlike places and a turn of the size")
    if len(both_ways(ways)) < 2 * len(ways):
        raise BadWeb("two ways join the same two places")


def is_place(web, thing):
    """Whether anything is a place of a web."""
    return is_below(thing, web.many())


def need_place(web, place):
    """Refuse anything that is no place of a web."""
    if not is_place(web, place):
        raise NoPlace(place)


def come_to(web, start, gone=None):
    """The places that walks from a start come to without one that is gone, the nearest first."""
    found = [start]
    at = 0
    while at < len(found):
        here = found[at]
        for place in web.beside(here):
            if place != gone and place not in found:
                found.append(place)
        at += 1
    return found


def walks_from(web, start):
    """A dict from the places joined to a start, the nearest first, to the least of the shortest walks there."""
    walks = {start: []}
    row = [start]
    at = 0
    # Places are met by rising walks, shorter ones first, so each by its least of the shortest.
    while at < len(row):
        here = row[at]
        for place in web.beside(here):
            if place not in walks:
                walks[place] = walks[here] + [place]
                row.append(place)
        at += 1
    return walks


class Web:
    """Places from 0 to below many, joined by ways; it never changes."""

    def __init__(self, many, ways, *, size=3):
        need_size(size)
        need_ways(many, ways, size)
        self._many = many
        self._size = size
        self._turns = both_ways(ways)

    def many(self):
        """How many places there are."""
        return self._many

    def size(self):
        """The size of the turns of its ways."""
        return self._size

    def ways(self):
        """The rising list of (one, other, turn), one below other."""
        return [(one, other, self._turns[one, other]) for one, other in sorted(self._turns) if one < other]

    def beside(self, place):
        """The rising list of the places to which ways lead from a place."""
        need_place(self, place)
        return [other for other in range(self._many) if (place, other) in self._turns]

    def turn(self, one, other):
        """The turn of who goes from one place to another one beside it."""
        need_place(self, one)
        need_place(self, other)
        if (one, other) not in self._turns:
            raise NoWay(one, other)
        return self._turns[one, other]

    def joined(self, place):
        """The rising tuple of the places joined to a place, itself too."""
        need_place(self, place)
        return tuple(sorted(come_to(self, place)))

    def __eq__(self, other):
        return (isinstance(other, Web) and self._many == other._many and self._size == other._size
                and self._turns == other._turns)
