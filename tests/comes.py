"""What the tests of wishes and of what stands on them use: all standings that come of one, gone through step by step,
and wishes of many kinds, granted by the document's words alone.

A standing is told here as a row: for each place a pair (name, coat), None for the empty one.
"""

from tests.nets import beside_of, some_walk, turn_of, walked_by
from tests.things import ALL, GROUPS, composed, inverse, plain_of
from turncoats.standings import Standing
from turncoats.webs import Web
from turncoats.wishes import Wish


def row_of(standing):
    row = [None] * standing.web().many()
    for name, (place, coat) in standing.folk().items():
        row[place] = (name, coat)
    return tuple(row)


def standing_by(web, row):
    return Standing(web, {pair[0]: (place, pair[1]) for place, pair in enumerate(row) if pair is not None})


def come(standing, most=None):
    """A dict from the rows of all standings that come of one to their least shortest walks, in order by these; of no
    more than the first so many."""
    web = standing.web()
    beside = beside_of(web)
    turns = {(one, other): turn_of(web, one, other) for one in beside for other in beside[one]}
    walks = {row_of(standing): ()}
    rows = list(walks)
    for row in rows:
        here = row.index(None)
        for place in sorted(beside[here]):
            name, coat = row[place]
            behind = list(row)
            behind[here], behind[place] = (name, composed(coat, turns[place, here])), None
            if tuple(behind) not in walks:
                walks[tuple(behind)] = walks[row] + (place,)
                rows.append(tuple(behind))
        if most is not None and len(rows) > most:
            break
    return walks


def wears_it(coat, dress):
    if dress is None:
        return True
    if dress[0] == "spot":
        return coat[dress[1]] == dress[2]
    return dress == coat


def grants(row, empty, told):
    """Whether a row grants a wish of that empty place that tells so."""
    return row[empty] is None and all(
        row[place] is not None and row[place][0] == name and wears_it(row[place][1], dress)
        for name, (place, dress) in told.items())


def grants_wish(row, wish):
    return grants(row, wish.empty(), wish.told())


def some_dress(pick, size, coat):
    """A dress that lets a coat be worn."""
    spot = pick.randrange(size)
    return pick.choice([None, coat, coat, coat, ("spot", spot, coat[spot])])


def some_wish(web, names, pick):
    """Any wish that tells of some of the names."""
    names = pick.sample(names, len(names))
    places = pick.sample(range(web.many()), web.many())
    many = pick.choice([len(names), len(names), pick.randint(0, len(names))])
    told = {name: (place, some_dress(pick, web.size(), pick.choice(ALL[web.size()])))
            for name, place in list(zip(names, places[1:]))[:many]}
    return Wish(web, places[0], told)


def near_miss(standing, pick, steps=40):
    """A wish of what a walk leads to, or nearly: two may be exchanged, or one dressed otherwise."""
    web = standing.web()
    folk, empty = walked_by(standing, some_walk(web, standing.empty(), pick.randrange(steps), pick.random()))
    names = sorted(folk)
    what = pick.randrange(4)
    if what in (1, 3) and len(names) > 1:
        one, other = pick.sample(names, 2)
        folk[one], folk[other] = (folk[other][0], folk[one][1]), (folk[one][0], folk[other][1])
    if what in (2, 3):
        one = pick.choice(names)
        folk[one] = (folk[one][0], pick.choice(ALL[web.size()]))
    told = {}
    for name, (place, coat) in folk.items():
        if pick.random() < 0.8:
            told[name] = (place, some_dress(pick, web.size(), coat))
    return Wish(web, empty, told)


def web_with(many, pairs, size, pick):
    """A web of such pairs whose ways turn by some group's turns alone, as own turns, or by any."""
    pool = pick.choice([ALL[size], [plain_of(size)], [plain_of(size)] * 3 + ALL[size], *GROUPS[size]])
    high = [pick.choice(ALL[size]) for _ in range(many)]
    ways = [(one, other, composed(composed(inverse(high[one]), pick.choice(pool)), high[other]))
            for one, other in pairs]
    return Web(many, ways, size=size)
