"""What the tests of bars use: whether something that is one by form is a bar, by the document's words alone, and
examples of each kind."""

from itertools import permutations, product

from tests.comes import wears_it
from tests.nets import beside_of, brute_parts, simple_walks
from tests.things import ALL, composed, inverse
from turncoats.heights import heights, own_turn, own_way
from turncoats.parts import kind, root
from turncoats.rounds import abouts
from turncoats.standings import Standing
from turncoats.webs import Web
from turncoats.wishes import Wish

KINDS = ("apart", "still", "folk", "about", "lot", "sign", "thirds", "seven")


def near_of(standing, wish):
    """The near wish, None where there is none."""
    rows = [row for row in simple_walks(standing.web(), wish.empty()) if row[-1] == standing.empty()]
    return wish.led(min((len(row), row) for row in rows)[1][1:]) if rows else None


def parts_there(standing):
    """The pairs of a part that is joined to the empty place, and its root from there."""
    web, here = standing.web(), standing.empty()
    return [(part, root(web, part, here)) for part in brute_parts(web) if part[0] in web.joined(here)]


def folk_at(standing, part, base):
    return [name for name in standing.names() if standing.where(name) in part and standing.where(name) != base]


def grantings(standing, near, part, base, any_coats=True):
    """However the near wish is granted at a part: all dicts from the folk to (place, coat); or one for each order."""
    told = near.told()
    folk = folk_at(standing, part, base)
    places = [place for place in part if place != base]
    if any(pair[0] in places and name not in folk for name, pair in told.items()):
        return
    for row in permutations(places):
        if any(told[name][0] != place for name, place in zip(folk, row) if name in told):
            continue
        coats = [[coat for coat in ALL[standing.web().size()] if name not in told or wears_it(coat, told[name][1])]
                 for name in folk]
        if not any_coats:
            coats = [worn[:1] for worn in coats]
        for worn in product(*coats):
            yield dict(zip(folk, zip(row, worn)))


def change_of(standing, part, base, name, place, coat):
    high = heights(standing.web(), part, base)
    own = composed(coat, inverse(high[place]))
    return composed(inverse(own_turn(standing, part, base, name)), own)


def changes_by(standing, part, base, granting):
    return {name: change_of(standing, part, base, name, place, coat) for name, (place, coat) in granting.items()}


def exchanges(standing, granting):
    """-1 for each exchange of two by which folk come to where they are put, multiplied."""
    goes = {standing.where(name): place for name, (place, _) in granting.items()}
    told = 1
    for place in goes:
        while goes[place] != place:
            there = goes[place]
            goes[place], goes[there] = goes[there], there
            told = -told
    return told


def put_for(pairs, other, one):
    """Pairs with one in the place of other."""
    told = [tuple(sorted(one if place == other else place for place in pair)) for pair in pairs]
    return tuple(sorted(told))


def told_by_names(pairs, names):
    return frozenset(frozenset(names[place] for place in pair) for pair in pairs)


def all_ways(web, part, base):
    for one in part:
        for other in beside_of(web)[one] & set(part):
            yield one, other, own_way(web, part, base, one, other)


def is_sign(standing, near, part, base, leading, signs):
    web = standing.web()
    if any(leading[own] * signs[one] * signs[other] != -1 for one, other, own in all_ways(web, part, base)):
        return False
    for granting in grantings(standing, near, part, base):
        told = exchanges(standing, granting)
        changes = changes_by(standing, part, base, granting).values()
        if all(change in leading for change in changes):
            for change in changes:
                told *= leading[change]
            if told != -1:
                return False
    return True


def names_of(standing, part, base, granting):
    """Who stands at each of a part's places, in the standing and then."""
    return ({standing.where(name): name for name in granting},
            {place: name for name, (place, _) in granting.items()})


def is_thirds(standing, near, part, base, leading, rows):
    web = standing.web()
    for one, other, own in all_ways(web, part, base):
        for j in range(3):
            if put_for(rows[one][(j + leading[own]) % 3], other, one) != rows[other][j]:
                return False
    for granting in grantings(standing, near, part, base):
        changes = changes_by(standing, part, base, granting).values()
        if all(change in leading for change in changes):
            n = sum(leading[change] for change in changes)
            now, then = names_of(standing, part, base, granting)
            if all(told_by_names(rows[base][(j + n) % 3], then) == told_by_names(rows[base][j], now)
                   for j in range(3)):
                return False
    return True


def is_seven(standing, near, part, base, rows):
    web = standing.web()
    for one, other, _ in all_ways(web, part, base):
        if tuple(sorted(put_for(row, other, one) for row in rows[one])) != rows[other]:
            return False
    for granting in grantings(standing, near, part, base, False):
        now, then = names_of(standing, part, base, granting)
        if {told_by_names(row, now) for row in rows[base]} == {told_by_names(row, then) for row in rows[base]}:
            return False
    return True


def is_lot(standing, near, part, base, name, group):
    told = near.told()
    if kind(standing.web(), part) == "round" or name not in folk_at(standing, part, base) or name not in told:
        return False
    place, dress = told[name]
    if place not in part or place == base:
        return False
    if any(own not in group for _, _, own in all_ways(standing.web(), part, base)):
        return False
    return not any(wears_it(coat, dress) and change_of(standing, part, base, name, place, coat) in group
                   for coat in ALL[standing.web().size()])


def is_still(standing, wish, name):
    told = wish.told()
    near = standing.web().joined(standing.empty())
    if name not in told or (standing.where(name) in near and told[name][0] in near):
        return False
    return standing.where(name) != told[name][0] or not wears_it(standing.coat(name), told[name][1])


def is_bar(standing, wish, thing):
    """Whether what is a bar by form is one."""
    near = near_of(standing, wish)
    if thing[0] == "apart":
        return near is None
    if thing[0] == "still":
        return is_still(standing, wish, thing[1])
    bases = dict(parts_there(standing))
    if near is None or thing[1] not in bases:
        return False
    part, base = thing[1], bases[thing[1]]
    form = kind(standing.web(), part)
    if thing[0] == "folk":
        at = near.told().get(thing[2], (base, None))[0]
        return at in part and at != base and thing[2] not in folk_at(standing, part, base)
    if thing[0] == "about":
        return form == "round" and abouts(standing, near, part) == []
    if thing[0] == "lot":
        return is_lot(standing, near, part, base, *thing[2:])
    if thing[0] == "sign":
        if form in ("way", "round") or any(own not in thing[2] for _, _, own in all_ways(standing.web(), part, base)):
            return False
        return is_sign(standing, near, part, base, *thing[2:])
    if any(thing[0] == "thirds" and own not in thing[2] for _, _, own in all_ways(standing.web(), part, base)):
        return False
    if thing[0] == "thirds":
        return form == "five" and is_thirds(standing, near, part, base, *thing[2:])
    return form == "seven" and is_seven(standing, near, part, base, *thing[2:])


# Examples: of each kind a standing, a wish and a bar.
PLAIN, THIRD, SWAP = (0, 1, 2), (1, 2, 0), (1, 0, 2)
A3 = ((0, 1, 2), (1, 2, 0), (2, 0, 1))
S3 = tuple(ALL[3])
S2 = ((0, 1), (1, 0))


def folk_of(rows):
    """A dict of folk from (name, place, coat)."""
    return {name: (place, coat) for name, place, coat in rows}


def exchanged(folk, one, other):
    """Folk, two of whom are exchanged, each in its own coat."""
    return {**folk, one: (folk[other][0], folk[one][1]), other: (folk[one][0], folk[other][1])}


# Two rounds of three at 2, a tail behind 4, and two places apart.
TWO = Web(8, [(0, 1, THIRD), (1, 2, SWAP), (2, 0, PLAIN), (2, 3, PLAIN), (3, 4, PLAIN), (4, 2, SWAP), (4, 5, THIRD),
              (6, 7, PLAIN)])
AT_TWO = Standing(TWO, folk_of([("a", 1, PLAIN), ("b", 2, THIRD), ("c", 3, SWAP), ("d", 4, PLAIN), ("e", 5, PLAIN),
                                ("f", 6, PLAIN), ("g", 7, SWAP)]))

# Four places, 1 and 3 not joined; each round of three turns a coat, that of four doesn't.
FOUR = Web(4, [(0, 1, (0, 1)), (0, 2, (0, 1)), (0, 3, (0, 1)), (1, 2, (1, 0)), (2, 3, (1, 0))], size=2)
AT_FOUR = Standing(FOUR, folk_of([("a", 1, (0, 1)), ("b", 2, (0, 1)), ("c", 3, (1, 0))]))

# A five whose rounds go with thirds, and a tail behind 4.
FIVE = Web(6, [(0, 2, PLAIN), (0, 3, PLAIN), (0, 4, PLAIN), (1, 2, PLAIN), (1, 3, THIRD), (1, 4, (2, 0, 1)),
               (4, 5, SWAP)])
AT_FIVE = Standing(FIVE, folk_of([("a", 1, PLAIN), ("b", 2, PLAIN), ("c", 3, THIRD), ("d", 4, PLAIN),
                                  ("e", 5, SWAP)]))

# A seven with plain ways.
SEVEN = Web(7, [(one, other, (0, 1)) for one, other in [(0, 1), (1, 2), (2, 3), (3, 4), (4, 5), (5, 0), (0, 6),
                                                        (6, 3)]], size=2)
AT_SEVEN = Standing(SEVEN, folk_of([(name, place, (0, 1)) for name, place in zip("abcdef", range(1, 7))]))


def wish_with(standing, told):
    """A wish of a standing's empty place."""
    return Wish(standing.web(), standing.empty(), told)
