"""Standings: who stands where in which coat, so that one place is empty."""

from turncoats.errors import BadFolk, NoName, NoStep
from turncoats.turns import is_number, put, size_of
from turncoats.webs import both_ways, is_place, need_place

MOST_LETTERS = 6


def is_name(thing):
    """Whether anything is a name."""
    if not isinstance(thing, str) or not 1 <= len(thing) <= MOST_LETTERS:
        return False
    return all(["a" <= sign <= "z" for sign in thing])


def is_stand(thing, web):
    """Whether anything is a pair of a place of a web and a coat of its size."""
    if not isinstance(thing, tuple) or len(thing) != 2:
        return False
    return is_place(web, thing[0]) and size_of(thing[1]) == web.size()


def need_folk(web, folk):
    """Refuse folk that can't stand so in a web; else tell a dict from places to names."""
    if not isinstance(folk, dict):
        raise BadFolk(None)
    there = {}
    for name in folk:
        if not is_name(name) or not is_stand(folk[name], web) or folk[name][0] in there:
            raise BadFolk(name)
        there[folk[name][0]] = name
    if len(there) != web.many() - 1:
        raise BadFolk(None)
    return there


def need_walk(web, begin, walk):
    """Refuse anything that is no walk of the empty place, which is there when it begins."""
    if not isinstance(walk, (list, tuple)):
        raise NoStep(0)
    turns = both_ways(web.ways())
    here = begin
    for at, place in enumerate(walk):
        if not is_number(place) or (place, here) not in turns:
            raise NoStep(at)
        here = place


class Standing:
    """Folk at all places of a web but one; it never changes."""

    def __init__(self, web, folk):
        self._there = need_folk(web, folk)
        self._web = web
        self._folk = {name: folk[name] for name in sorted(folk)}
        self._empty = [place for place in range(web.many()) if place not in self._there][0]

    def web(self):
        """The web that they stand in."""
        return self._web

    def empty(self):
        """The place where nobody stands."""
        return self._empty

    def folk(self):
        """A dict from names, rising, to pairs (place, coat)."""
        return {name: self._folk[name] for name in self._folk}

    def names(self):
        """The rising list of names."""
        return list(self._folk)

    def where(self, name):
        """The place where somebody stands."""
        return self._stand(name)[0]

    def coat(self, name):
        """The coat that somebody wears."""
        return self._stand(name)[1]

    def who(self, place):
        """The name of who stands at a place, None of the empty one."""
        need_place(self._web, place)
        return self._there.get(place)

    def step(self, place):
        """The standing behind the step of who stands at a place to the empty one."""
        need_place(self._web, place)
        if place not in self._web.beside(self._empty):
            raise NoStep(0)
        name = self._there[place]
        behind = self.folk()
        behind[name] = (self._empty, put(self._folk[name][1], self._web.turn(place, self._empty)))
        return Standing(self._web, behind)

    def _stand(self, name):
        # Asked for as a name first, as not everything can be a dict's key.
        if not is_name(name) or name not in self._folk:
            raise NoName(name)
        return self._folk[name]

    def __eq__(self, other):
        return isinstance(other, Standing) and self._web == other._web and self._folk == other._folk
