"""Rounds: the empty place goes about on them, and by that alone who stands there is moved."""

from turncoats.errors import Unlike
from turncoats.parts import root, round_of
from turncoats.turns import order, plain, put
from turncoats.walks import gone_back, walked
from turncoats.webs import walks_from
from turncoats.wishes import need_wish, stands_so


def once_about(web, part, here):
    """The walk once about a round, from one of its places back to it, by its lesser neighbour there first."""
    row = round_of(web, part)
    at = row.index(here)
    others = row[at + 1:] + row[:at]
    return [*(others if others[0] < others[-1] else others[::-1]), here]


def walk_to(standing, part):
    """The least of the shortest walks by which the empty place comes to a part's root."""
    web = standing.web()
    return walks_from(web, standing.empty())[root(web, part, standing.empty())]


def about(standing, part, n):
    """The standing behind going about a round so many times, undone ones below 0."""
    web = standing.web()
    # By whole periods nothing comes about, so n may be any.
    many = n % period(web, part)
    ahead = walk_to(standing, part)
    begin = standing.empty()
    once = once_about(web, part, ahead[-1] if ahead else begin)
    return walked(standing, [*ahead, *(once * many), *gone_back(begin, ahead)])


def period(web, part):
    """The least number from 1 on of abouts that leave each standing as it is."""
    row = round_of(web, part)
    turn = plain(web.size())
    for one, other in zip(row, row[1:] + row[:1]):
        turn = put(turn, web.turn(one, other))
    # By as many abouts as folk each has gone by all of the round once, so is turned by all its ways.
    return (len(row) - 1) * order(turn)


def abouts(standing, wish, part):
    """The rising list of the numbers of abouts behind which a round's folk stand as is wished."""
    need_wish(standing, wish)
    web = standing.web()
    most = period(web, part)
    behind = walked(standing, walk_to(standing, part))
    if wish.empty() != standing.empty():
        raise Unlike("the wish's empty place is not the standing's")
    told = wish.told()
    names = [name for name in told if told[name][0] in part and told[name][0] != behind.empty()]
    once = once_about(web, part, behind.empty())
    found = []
    for n in range(most):
        folk = behind.folk()
        if all([stands_so(folk[name], told[name]) for name in names]):
            found.append(n)
        behind = walked(behind, once)
    return found
