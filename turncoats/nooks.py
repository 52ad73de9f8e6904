"""Nooks: parts as they are come to from the empty place, and what a standing and a near wish have there.

What is told of how a near wish is granted at a part is told here, for who looks for bars, for who
judges them, and for who leads folk to what is wished.
"""

from itertools import permutations

from turncoats.groups import made
from turncoats.heights import heights_from, own_ways
from turncoats.parts import kind, parts, root
from turncoats.turns import back, put
from turncoats.webs import walks_from
from turncoats.wishes import stands_so, wears


class Nook:
    """A part with its root, its other places, its heights, its ways' own turns, and their group."""

    def __init__(self, web, part, base):
        self.part = part
        self.base = base
        self.form = kind(web, part)
        self.places = [place for place in part if place != base]
        self.high = heights_from(web, part, base)
        self.own = own_ways(web, part, base)
        self.group = made(list(self.own.values()), web.size())


class Case:
    """A standing and what the near wish asks of it, looked at in one nook."""

    def __init__(self, standing, near, nook):
        self.start = standing
        self.near = near
        self.nook = nook
        self.asked = near.told()
        self.people = [name for name in standing.names() if standing.where(name) in nook.places]


def joined_parts(web, place):
    """The rising list of the parts that are joined to a place."""
    near = web.joined(place)
    return [part for part in parts(web) if part[0] in near]


def nooks_of(web, place):
    """The nooks that are come to from a place, by parts, rising."""
    return [Nook(web, part, root(web, part, place)) for part in joined_parts(web, place)]


def near_wish(standing, wish):
    """The near wish, None where the wish's empty place isn't joined to the standing's."""
    walk = walks_from(standing.web(), wish.empty()).get(standing.empty())
    return None if walk is None else wish.led(walk)


def is_still(standing, wish, name):
    """Whether a wish asks what isn't so of a name that it tells, where no walk moves anybody."""
    near = standing.web().joined(standing.empty())
    asked = wish.told()[name]
    stand = standing.folk()[name]
    return (stand[0] not in near or asked[0] not in near) and not stands_so(stand, asked)


def is_stranger(case, name):
    """Whether a name is asked to stand at the nook's places, but is none of its folk."""
    return name in case.asked and case.asked[name][0] in case.nook.places and name not in case.people


def is_placed(case, name):
    """Whether a name is one of the nook's folk, and asked to stand at one of its places."""
    return name in case.people and name in case.asked and case.asked[name][0] in case.nook.places


def coats_of(web):
    """All coats of a web's size, rising."""
    return list(permutations(range(web.size())))


def no_numbers(web):
    """0 for each turn of a web's size."""
    return {turn: 0 for turn in coats_of(web)}


def own_at(case, name):
    """The own turn that one of the nook's folk has in the standing."""
    return put(case.start.coat(name), back(case.nook.high[case.start.where(name)]))


def changes(case, name):
    """The changes of one of the nook's folk by which what is asked of its coat may come about."""
    coats = coats_of(case.start.web())
    if name not in case.asked:
        return coats
    place, dress = case.asked[name]
    ahead = back(own_at(case, name))
    behind = back(case.nook.high[place])
    return [put(ahead, put(coat, behind)) for coat in coats if wears(coat, dress)]


def is_lot(case, name, group):
    """Whether by none of the changes in a group a name comes to what is asked of its coat."""
    return not any([change in group for change in changes(case, name)])


def with_more(came, places, others):
    """A dict with more places, one for each of the others."""
    more = dict(came)
    for place, other in zip(places, others):
        more[place] = other
    return more


def placings(case):
    """How the nook's folk may be put at its places so that what is asked of where they stand is so.

    A list of dicts from the places to where those stand in the standing who are put there.
    """
    came = {}
    for name in case.asked:
        inside = case.asked[name][0] in case.nook.places
        if inside != (name in case.people):
            return []
        if inside:
            came[case.asked[name][0]] = case.start.where(name)
    free = [place for place in case.nook.places if place not in came]
    others = [case.start.where(name) for name in case.people if name not in case.asked]
    return [with_more(came, free, row) for row in permutations(others)]


def sums(case, numbers, rest):
    """What the numbers of all changes can come to, those in numbers alone, by the sum's rest; rising."""
    found = [0]
    for name in case.people:
        told = sorted({numbers[one] for one in changes(case, name) if one in numbers})
        found = sorted({(one + other) % rest for one in found for other in told})
    return found


def is_barred(case, numbers, rest, mark, kept):
    """Whether no changes in numbers, and no placing, keep the mark at the root."""
    rows = placings(case)
    if rows == []:
        return True
    told = sums(case, numbers, rest)
    for came in rows:
        for n in told:
            if kept(mark, came, n):
                return False
    return True
