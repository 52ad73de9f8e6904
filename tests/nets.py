"""What the tests of webs and of what stands on them use: webs of many shapes, and what the document's words tell
of them, found by going over all walks."""

from itertools import combinations
from random import Random

from tests.things import ALL, composed, deep, inverse
from turncoats.standings import Standing
from turncoats.webs import Web

# Of each kind something: what is no place, no name, no walk, no fold, in any place where something else is asked for.
ANYTHING = [
    None, True, False, -1, 8, 9, 10 ** 30, -10 ** 5000, "", "0", "1", "line", "anna", "ANNA", "two\nrows",
    [], [0], [0, 1], [[0, 1, (0, 1, 2)]], (), (0,), (0, 1, 2), (False, True), (None,), ("line", 0, 1), ((0, ()),),
    {}, {0: 1}, {"anna": (0, (0, 1, 2))}, {(): {}}, deep(list), deep(tuple), (0, deep(list)), [deep(tuple)],
]
NO_PLACES = [thing for thing in ANYTHING if thing not in (8, 9)]

# Pairs of places, for many shapes: how many places, and which pairs of them ways join.
SHAPES = {
    "way": (2, "01"),
    "nothing": (3, ""),
    "row": (4, "01 12 23"),
    "star": (5, "04 14 24 34"),
    "round of three": (3, "01 02 12"),
    "round of four": (4, "02 21 13 30"),
    "round of six": (6, "05 53 31 12 24 40"),
    "round of eight": (8, "03 36 61 14 47 72 25 50"),
    "five": (5, "01 02 03 41 42 43"),
    "five otherwise": (5, "13 10 14 23 20 24"),
    "five in more": (7, "02 03 04 12 13 14 45 56"),
    "five behind others": (7, "01 12 23 24 25 63 64 65"),
    "seven": (7, "01 12 23 34 45 50 06 63"),
    "seven otherwise": (7, "62 25 51 14 40 06 23 34"),
    "seven in more": (8, "01 12 23 34 45 50 06 63 57"),
    "seven behind another": (8, "01 12 23 34 45 56 61 74 71"),
    "near a five: two joined": (5, "01 02 03 41 42 43 04"),
    "near a five: three joined": (5, "01 02 03 41 42 43 12"),
    "near a five: a house": (5, "01 12 23 34 40 13"),
    "near a five: six": (6, "01 02 03 04 51 52 53 54"),
    "near a seven: beside one another": (7, "01 12 23 34 45 50 06 61"),
    "near a seven: one between": (7, "01 12 23 34 45 50 06 62"),
    "near a seven: three ways": (7, "01 12 23 34 45 50 06 63 61"),
    "near a seven: across without it": (7, "01 12 23 34 45 50 06 63 03"),
    "near a seven: a way more": (7, "01 12 23 34 45 50 06 63 14"),
    "near a seven: two threes": (7, "01 12 20 34 45 53 06 63"),
    "near a seven: a web of six": (6, "01 12 23 34 45 50 03"),
    "all of four": (4, "01 02 03 12 13 23"),
    "all of six": (6, "01 02 03 04 05 12 13 14 15 23 24 25 34 35 45"),
    "cube": (8, "01 13 32 20 45 57 76 64 04 15 26 37"),
    "two rounds at a place": (5, "01 12 20 23 34 42"),
    "three rounds at a place": (7, "01 12 20 23 34 42 25 56 62"),
    "rounds, a way between": (7, "01 12 20 23 34 45 53 56"),
    "rounds apart": (8, "01 12 20 34 45 56 63"),
    "round and a tail to it": (6, "01 12 20 03 34 35"),
    "five and round": (8, "02 03 04 12 13 14 45 56 64"),
    "sixteen ways": (8, "01 02 03 04 05 06 07 12 23 34 45 56 67 71 13 57"),
}


def pairs_of(shape):
    many, told = SHAPES[shape]
    return many, [(int(word[0]), int(word[1])) for word in told.split()]


def web_by(many, pairs, size=3, chance=0):
    """A web with turns that are picked, always the same ones, for such pairs."""
    pick = Random(f"{many} {pairs} {size} {chance}")
    return Web(many, [(one, other, pick.choice(ALL[size])) for one, other in pairs], size=size)


def web_of(shape, size=3, chance=0):
    many, pairs = pairs_of(shape)
    return web_by(many, pairs, size, chance)


WEBS = {(shape, size): web_of(shape, size) for at, shape in enumerate(SHAPES) for size in (3, 2 + at % 4)}


def some_webs(many):
    """Webs with some ways or other."""
    for number in range(many):
        pick = Random(number)
        places = pick.randint(2, 8)
        pairs = list(combinations(range(places), 2))
        ways = pick.sample(pairs, pick.randint(0, min(len(pairs), 16)))
        yield web_by(places, ways, pick.choice((2, 3, 4, 5)), number)


def standing_of(web, empty=0, chance=0):
    """A standing of a web with that place empty, folk and coats picked, always the same ones."""
    pick = Random(f"{web.ways()} {empty} {chance}")
    names = ["a", "b", "cc", "dora", "emil", "fffff", "zzzzzz"]
    pick.shuffle(names)
    places = [place for place in range(web.many()) if place != empty]
    return Standing(web, {name: (place, pick.choice(ALL[web.size()])) for name, place in zip(names, places)})


def some_walk(web, begin, steps, chance=0):
    """A walk of so many steps, if any can be made."""
    pick = Random(f"{begin} {steps} {chance}")
    walk = []
    here = begin
    while len(walk) < steps and web.beside(here):
        here = pick.choice(web.beside(here))
        walk.append(here)
    return walk


def beside_of(web):
    told = {place: set() for place in range(web.many())}
    for one, other, _ in web.ways():
        told[one].add(other)
        told[other].add(one)
    return told


def turn_of(web, one, other):
    """The turn of who goes from one to other, by the rising ways alone."""
    for low, high, turn in web.ways():
        if (low, high) == (one, other):
            return turn
        if (low, high) == (other, one):
            return inverse(turn)
    return None


def simple_walks(web, start, within=None):
    """All rows of unlike places, each with a way to the next, that begin at a start."""
    beside = beside_of(web)
    rows = [(start,)]
    for row in rows:
        for place in sorted(beside[row[-1]]):
            if place not in row and (within is None or place in within):
                rows.append(row + (place,))
    return rows


def rounds_of(web):
    """All rounds, as sets of their ways' pairs."""
    beside = beside_of(web)
    return {frozenset(frozenset(two) for two in zip(row, row[1:] + row[:1]))
            for start in range(web.many()) for row in simple_walks(web, start)
            if len(row) >= 3 and row[0] == min(row) and row[0] in beside[row[-1]]}


def brute_parts(web):
    """The parts: ways tied by rounds, until nothing more is tied."""
    groups = [{frozenset(way[:2])} for way in web.ways()]
    for one in rounds_of(web):
        tied = [group for group in groups if group & one]
        groups = [group for group in groups if not group & one] + [set().union(*tied)]
    return sorted(tuple(sorted(set().union(*group))) for group in groups)


def stepped(web, folk, empty, place):
    """What folk, a dict from names to (place, coat), are behind one step; by the document's words alone."""
    told = dict(folk)
    for name, (at, coat) in folk.items():
        if at == place:
            told[name] = (empty, composed(coat, turn_of(web, place, empty)))
    return told


def walked_by(standing, walk):
    """The folk and the empty place behind a walk, step by step."""
    folk, here = standing.folk(), standing.empty()
    for place in walk:
        folk, here = stepped(standing.web(), folk, here, place), place
    return folk, here


def lines_unfolded(fold):
    """The pairs (begin, walk) that the lines of a fold are."""
    told = []
    for begin, items in fold:
        walk = []
        for item in items:
            if isinstance(item, int):
                walk.append(item)
            else:
                start, ahead = told[item[1]]
                walk += ahead if item[2] == 1 else (([start] + ahead)[::-1])[1:]
        told.append((begin, walk))
    return told


def some_fold(web, begin, chance=0, most=60):
    """A fold that begins at a place, its last line of no more than so many steps."""
    pick = Random(f"{web.ways()} {begin} {chance}")
    told, fold = [], []
    for number in range(pick.randint(1, 7)):
        here = start = pick.randrange(web.many())
        items, walk = [], []
        for _ in range(pick.choice((0, 1, 2, 3, 5))):
            fits = [("line", k, way) for k, (one, ahead) in enumerate(told) for way in (1, -1)
                    if (one if way == 1 else (ahead or [one])[-1]) == here and len(ahead) + len(walk) <= most]
            ways = [*fits, *web.beside(here)]
            if ways:
                items.append(pick.choice(ways))
                walk = lines_unfolded([*fold, (start, tuple(items))])[-1][1]
                here = (walk or [start])[-1]
        fold.append((start, tuple(items)))
        told.append((start, walk))
    starts = [k for k, (one, _) in enumerate(told) if one == begin]
    ends = [k for k, (one, walk) in enumerate(told) if (walk or [one])[-1] == begin]
    fold.append((begin, tuple([("line", k, 1) for k in starts[-1:]] or [("line", k, -1) for k in ends[-1:]])))
    return tuple(fold)
