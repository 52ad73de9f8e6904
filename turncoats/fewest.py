"""Fewest steps: the least of the shortest walks to what grants a wish, found by going through all standings."""

from turncoats.errors import NoStep, TooMany
from turncoats.standings import need_walk
from turncoats.turns import put
from turncoats.webs import both_ways
from turncoats.wishes import need_wish, stands_so

MOST_STANDINGS = 20000


def stood_of(standing):
    """A standing as a search has it: for each place a pair (name, coat), None for the empty one."""
    stood = []
    for place in range(standing.web().many()):
        name = standing.who(place)
        stood.append(None if name is None else (name, standing.coat(name)))
    return tuple(stood)


def is_granted(wish, stood):
    """Whether a standing as a search has it grants a wish."""
    told = wish.told()
    for name in told:
        place = told[name][0]
        if stood[place] is None or stood[place][0] != name or not stands_so((place, stood[place][1]), told[name]):
            return False
    return stood[wish.empty()] is None


class Search:
    """The standings that come of one, in order by their least shortest walks."""

    def __init__(self, standing):
        web = standing.web()
        self.found = [stood_of(standing)]
        self._known = {self.found[0]: True}
        # For each the number of the one that it first comes of, and by which step.
        self._came = [(0, standing.empty())]
        self._beside = [web.beside(place) for place in range(web.many())]
        self._turns = both_ways(web.ways())

    def go_on(self, number):
        """Find what comes by a step of the one of that number."""
        stood = self.found[number]
        here = stood.index(None)
        for place in self._beside[here]:
            name, coat = stood[place]
            row = list(stood)
            row[here] = (name, put(coat, self._turns[place, here]))
            row[place] = None
            behind = tuple(row)
            if behind not in self._known:
                self._known[behind] = True
                self.found.append(behind)
                self._came.append((number, place))

    def walk_to(self, number):
        """The least shortest walk to the one of that number."""
        walk = []
        while number > 0:
            number, place = self._came[number]
            walk.append(place)
        return walk[::-1]


def fewest(standing, wish, *, most=MOST_STANDINGS):
    """The least of the shortest walks to what grants a wish, or how many standings come, none of which does."""
    need_wish(standing, wish)
    search = Search(standing)
    at = 0
    while at < len(search.found):
        if at == most:
            raise TooMany(most)
        if is_granted(wish, search.found[at]):
            return "walk", search.walk_to(at)
        search.go_on(at)
        at += 1
    return "none", len(search.found)


def leads(standing, wish, walk):
    """Whether anything is a walk that leads to what grants a wish."""
    need_wish(standing, wish)
    try:
        need_walk(standing.web(), standing.empty(), walk)
    except NoStep:
        return False
    row = [standing.empty(), *walk]
    # Who grants the wish led back is led by the walk to what grants it.
    return row[-1] == wish.empty() and wish.led(row[-2::-1]).granted(standing)
