"""Parts of webs: ways that rounds tie together, their kinds, and how they are come to."""

from itertools import combinations

from turncoats.errors import NoPart, NoPlace
from turncoats.turns import is_number
from turncoats.webs import come_to, need_place


def sides_without(web, gone):
    """A dict from each place but one that is gone to the least that it is joined to then."""
    sides = {}
    for start in range(web.many()):
        if start != gone and start not in sides:
            for place in come_to(web, start, gone):
                sides[place] = start
    return sides


def part_with(sides, one, other):
    """The part of a way between two places: those that no single place parts from it.

    sides[gone] tells what is joined where a place is gone.
    """
    places = range(len(sides))
    part = []
    for place in places:
        # Of the way's ends one is left, whichever place is gone.
        tied = [sides[gone][place] == sides[gone][other if gone == one else one]
                for gone in places if gone != place]
        if all(tied):
            part.append(place)
    return tuple(part)


def parts(web):
    """The rising list of all parts."""
    sides = [sides_without(web, gone) for gone in range(web.many())]
    return sorted({part_with(sides, one, other) for one, other, _ in web.ways()})


def need_part(web, part):
    """Refuse anything that is no part of a web."""
    # To Python tuples of truths may be like ones of numbers.
    if not isinstance(part, tuple) or not all([is_number(place) for place in part]):
        raise NoPart("a part is a rising tuple of places")
    if part not in parts(web):
        raise NoPart("no part has just these places")


def ways_among(web, places):
    """The rising list of a web's ways that join two of some places."""
    return [way for way in web.ways() if way[0] in places and way[1] in places]


def beside_among(web, places, place):
    """The rising list of those of some places to which ways lead from a place."""
    return [other for other in web.beside(place) if other in places]


def round_among(web, places):
    """The round, as round_of tells it, that rising places and all ways among them are; else ().

    The places are a part, maybe without one of its places, so walks among them join them all.
    """
    beside = {place: beside_among(web, places, place) for place in places}
    if not all([len(beside[place]) == 2 for place in places]):
        return ()
    row = [places[0]]
    while len(row) < len(places):
        ahead = [place for place in beside[row[-1]] if place not in row]
        row.append(ahead[0])
    return tuple(row)


def is_five(web, part):
    """Whether a part is five places, two with ways to the other three each, and no others."""
    if len(part) != 5:
        return False
    pairs = [(one, other) for one, other, _ in ways_among(web, part)]
    for two in combinations(part, 2):
        three = [place for place in part if place not in two]
        if sorted([(min(one, other), max(one, other)) for one in two for other in three]) == pairs:
            return True
    return False


def is_seven(web, part):
    """Whether a part is a round of six, and a seventh with ways to two across in it, and no others."""
    if len(part) != 7:
        return False
    for seventh in part:
        row = round_among(web, [place for place in part if place != seventh])
        ends = beside_among(web, part, seventh)
        if row != () and len(ends) == 2 and abs(row.index(ends[0]) - row.index(ends[1])) == 3:
            return True
    return False


def kind(web, part):
    """Which kind a part is of."""
    need_part(web, part)
    if len(part) == 2:
        return "way"
    if round_among(web, part) != ():
        return "round"
    if is_five(web, part):
        return "five"
    return "seven" if is_seven(web, part) else "web"


def root(web, part, place):
    """The place of a part to which each walk from a place to the part comes first."""
    need_part(web, part)
    need_place(web, place)
    # Each walk to another one of them goes by the root, so that is the nearest.
    for one in come_to(web, place):
        if one in part:
            return one
    raise NoPlace(place)


def round_of(web, part):
    """The places of a part that is a round's, from the least on, its lesser neighbour next."""
    need_part(web, part)
    row = round_among(web, part)
    if row == ():
        raise NoPart("the part is no round's")
    return row
