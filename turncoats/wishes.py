"""Wishes: which place is to be empty, and where somebody is to stand, and in what."""

from turncoats.errors import BadFolk, NoWish, Unlike
from turncoats.standings import is_name, need_walk
from turncoats.turns import put, size_of
from turncoats.webs import both_ways, is_below, is_place, need_place


def is_dress(thing, size):
    """Whether anything is a dress of a size."""
    if thing is None or size_of(thing) == size:
        return True
    if not isinstance(thing, tuple) or len(thing) != 3 or thing[0] != "spot":
        return False
    return is_below(thing[1], size) and is_below(thing[2], size)


def need_told(web, empty, told):
    """Refuse what can't be told of folk of a web, where that place is to be empty."""
    if not isinstance(told, dict):
        raise BadFolk(None)
    taken = [empty]
    for name in told:
        pair = told[name]
        if not is_name(name) or not isinstance(pair, tuple) or len(pair) != 2:
            raise BadFolk(name)
        if not is_place(web, pair[0]) or pair[0] in taken or not is_dress(pair[1], web.size()):
            raise BadFolk(name)
        taken.append(pair[0])


def wears(coat, dress):
    """Whether a coat is such a dress."""
    if dress is None or dress == coat:
        return True
    return dress[0] == "spot" and coat[dress[1]] == dress[2]


def turned(dress, turn):
    """What coats of a dress are, once they have been turned."""
    if dress is None:
        return None
    if dress[0] == "spot":
        return "spot", turn.index(dress[1]), dress[2]
    return put(dress, turn)


class Wish:
    """What is wished of standings of a web; it never changes."""

    def __init__(self, web, empty, told):
        need_place(web, empty)
        need_told(web, empty, told)
        self._web = web
        self._empty = empty
        self._told = {name: told[name] for name in sorted(told)}

    def web(self):
        """The web of whose standings it is a wish."""
        return self._web

    def empty(self):
        """The place that is to be empty."""
        return self._empty

    def told(self):
        """A dict from names, rising, to pairs (place, dress)."""
        return {name: self._told[name] for name in self._told}

    def granted(self, standing):
        """Whether a standing of its web grants it."""
        if standing.web() != self._web:
            raise Unlike("the wish is of another web than the standing")
        folk = standing.folk()
        for name in self._told:
            if name not in folk or not stands_so(folk[name], self._told[name]):
                return False
        return standing.empty() == self._empty

    def led(self, walk):
        """The wish that just those standings grant that the walk leads there from ones that grant this one."""
        need_walk(self._web, self._empty, walk)
        turns = both_ways(self._web.ways())
        told = self.told()
        there = {told[name][0]: name for name in told}
        here = self._empty
        for place in walk:
            if place in there:
                name = there.pop(place)
                there[here] = name
                told[name] = (here, turned(told[name][1], turns[place, here]))
            here = place
        return Wish(self._web, here, told)

    def __eq__(self, other):
        return (isinstance(other, Wish) and self._web == other._web and self._empty == other._empty
                and self._told == other._told)


def stands_so(stand, asked):
    """Whether who is at a pair (place, coat) stands as a pair (place, dress) asks."""
    return stand[0] == asked[0] and wears(stand[1], asked[1])


def wish_of(standing):
    """The wish that of the standings with a standing's names just that one grants."""
    return Wish(standing.web(), standing.empty(), standing.folk())


def need_wish(standing, wish):
    """Refuse a wish that is of another web than a standing, or tells of a name that it hasn't."""
    if standing.web() != wish.web():
        raise Unlike("the wish is of another web than the standing")
    names = standing.names()
    for name in wish.told():
        if name not in names:
            raise NoWish(name)
