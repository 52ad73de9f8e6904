"""Heights of a part's places, and what folk and ways turn within it beside them."""

from turncoats.errors import NoName, NoPlace, NoWay
from turncoats.groups import made
from turncoats.parts import beside_among, need_part, ways_among
from turncoats.turns import back, is_number, plain, put
from turncoats.webs import both_ways


def need_root(web, part, root):
    """Refuse anything that is no part, then anything that is none of its places."""
    need_part(web, part)
    if not is_number(root) or root not in part:
        raise NoPlace(root)


def heights_from(web, part, root):
    """The same as heights, for what has been looked at already."""
    told = {root: plain(web.size())}
    row = [root]
    at = 0
    # Places are met by rising rows, shorter ones first, so each by its least of the shortest.
    while at < len(row):
        here = row[at]
        for place in beside_among(web, part, here):
            if place not in told:
                told[place] = put(told[here], web.turn(here, place))
                row.append(place)
        at += 1
    return {place: told[place] for place in part}


def own_ways(web, part, root):
    """A dict from (one, other) to the own turn of the way between them, from either end."""
    told = heights_from(web, part, root)
    ways = ways_among(web, part)
    return both_ways([(one, other, put(put(told[one], turn), back(told[other]))) for one, other, turn in ways])


def heights(web, part, root):
    """A dict from a part's places, rising, to their heights."""
    need_root(web, part, root)
    return heights_from(web, part, root)


def own_way(web, part, root, one, other):
    """The own turn of a part's way from one place to another one."""
    need_root(web, part, root)
    turns = own_ways(web, part, root)
    if not is_number(one) or not is_number(other) or (one, other) not in turns:
        raise NoWay(one, other)
    return turns[one, other]


def own_turn(standing, part, root, name):
    """The own turn of somebody who stands in a part."""
    need_root(standing.web(), part, root)
    place = standing.where(name)
    if place not in part:
        raise NoName(name)
    return put(standing.coat(name), back(heights_from(standing.web(), part, root)[place]))


def group_of(web, part, root):
    """The group made of the own turns of all a part's ways."""
    need_root(web, part, root)
    return made(list(own_ways(web, part, root).values()), web.size())
