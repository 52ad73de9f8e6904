"""A yard: a web and standings of it, what is done there, and what comes to what."""

from turncoats.bars import bar
from turncoats.errors import CoatError, NoLog, NoName, NoTurn, TooMany
from turncoats.reach import reach
from turncoats.standings import Standing, is_name
from turncoats.turns import size_of
from turncoats.walks import led
from turncoats.webs import Web
from turncoats.wishes import wish_of

MOST_KEPT = 8

# How many things the row of a deed has, by its word.
DEEDS = {"keep": 3, "drop": 2, "step": 3, "lead": 3, "lay": 4, "shut": 3, "dress": 4}


def is_of_a_kind(one, other):
    """Whether one standing of a web comes of another one."""
    return one.names() == other.names() and bar(one, wish_of(other)) is None


def folk_row(standing):
    """The folk of a standing as a log tells them."""
    return tuple([(name, standing.where(name), standing.coat(name)) for name in standing.names()])


def is_folk_row(thing):
    """Whether anything is by form folk as a log tells them."""
    if not isinstance(thing, tuple):
        return False
    for row in thing:
        if not isinstance(row, tuple) or len(row) != 3 or not is_name(row[0]):
            return False
    names = [row[0] for row in thing]
    return all([one < other for one, other in zip(names, names[1:])])


def is_row(thing):
    """Whether anything is by form a deed as a log tells it."""
    if not isinstance(thing, tuple) or len(thing) == 0 or not isinstance(thing[0], str):
        return False
    return len(thing) == DEEDS.get(thing[0]) and (thing[0] != "keep" or is_folk_row(thing[2]))


class Yard:
    """A web, which may be changed, and standings of it by names."""

    def __init__(self, web):
        self._web = web
        self._kept = {}
        self._log = []
        # The pairs of a kind when news was asked last.
        self._told = []

    def web(self):
        """The web as it is now."""
        return self._web

    def names(self):
        """The rising list of the names of standings."""
        return sorted(self._kept)

    def standing(self, name):
        """The standing of a name."""
        # Asked for as a name first, as not everything can be a dict's key.
        if not is_name(name) or name not in self._kept:
            raise NoName(name)
        return self._kept[name]

    def log(self):
        """The list of all deeds done."""
        return list(self._log)

    def keep(self, name, folk):
        """Keep a standing by a new name, or another one by a name that is there."""
        if not is_name(name):
            raise NoName(name)
        standing = Standing(self._web, folk)
        if name not in self._kept and len(self._kept) == MOST_KEPT:
            raise TooMany(MOST_KEPT)
        self._kept[name] = standing
        self._log.append(("keep", name, folk_row(standing)))

    def drop(self, name):
        """Keep a standing no longer."""
        self.standing(name)
        del self._kept[name]
        self._log.append(("drop", name))

    def step(self, name, place):
        """Let who stands there in a standing step to its empty place."""
        self._kept[name] = self.standing(name).step(place)
        self._log.append(("step", name, place))

    def lead(self, name, fold):
        """Lead a standing by a fold."""
        self._kept[name] = led(self.standing(name), fold)
        self._log.append(("lead", name, fold))

    def lay(self, one, other, turn):
        """Lay a way more."""
        self._move(Web(self._web.many(), [*self._web.ways(), (one, other, turn)], size=self._web.size()))
        self._log.append(("lay", one, other, turn))

    def shut(self, one, other):
        """Take a way away."""
        self._web.turn(one, other)
        ends = (min(one, other), max(one, other))
        ways = [way for way in self._web.ways() if way[:2] != ends]
        self._move(Web(self._web.many(), ways, size=self._web.size()))
        self._log.append(("shut", one, other))

    def dress(self, name, who, coat):
        """Give somebody in a standing another coat."""
        folk = self.standing(name).folk()
        place = self.standing(name).where(who)
        if size_of(coat) != self._web.size():
            raise NoTurn("a coat is a turn of the web's size")
        folk[who] = (place, coat)
        self._kept[name] = Standing(self._web, folk)
        self._log.append(("dress", name, who, coat))

    def kinds(self):
        """The rising list of the rising tuples of names of a kind."""
        first_of = {}
        for name in self.names():
            alike = [one for one in first_of if first_of[one] == one and self._are_alike(one, name)]
            first_of[name] = alike[0] if alike else name
        firsts = [one for one in first_of if first_of[one] == one]
        return [tuple([other for other in first_of if first_of[other] == one]) for one in firsts]

    def news(self):
        """The pairs of a kind now that weren't when this was asked last, and those that were and aren't now."""
        now = []
        for row in self.kinds():
            now.extend([(one, other) for one in row for other in row if one < other])
        before = self._told
        self._told = sorted(now)
        return [pair for pair in self._told if pair not in before], [pair for pair in before if pair not in now]

    def paper(self, name, other):
        """A fold that leads from the one standing to the other one, or a bar."""
        standing = self.standing(name)
        return reach(standing, wish_of(self.standing(other)))

    def _are_alike(self, one, other):
        return is_of_a_kind(self._kept[one], self._kept[other])

    def _move(self, web):
        """Let all stand as they stand in another web of the same places and size."""
        self._web = web
        self._kept = {name: Standing(web, self._kept[name].folk()) for name in self._kept}


def do_row(yard, row):
    """Do a deed as a log tells it, one that is by form."""
    word = row[0]
    if word == "keep":
        yard.keep(row[1], {name: (place, coat) for name, place, coat in row[2]})
    elif word == "drop":
        yard.drop(row[1])
    elif word == "step":
        yard.step(row[1], row[2])
    elif word == "lead":
        yard.lead(row[1], row[2])
    elif word == "lay":
        yard.lay(row[1], row[2], row[3])
    elif word == "shut":
        yard.shut(row[1], row[2])
    else:
        yard.dress(row[1], row[2], row[3])


def led_by(web, log):
    """A new yard behind a log's deeds."""
    if not isinstance(log, (list, tuple)):
        raise NoLog(0)
    yard = Yard(web)
    for at, row in enumerate(log):
        if not is_row(row):
            raise NoLog(at)
        try:
            do_row(yard, row)
        except CoatError:
            raise NoLog(at) from None
    return yard
