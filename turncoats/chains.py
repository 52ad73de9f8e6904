"""Chains: what the walks from a place back to it do, told by few of them.

What a walk does is told by points, as in walks. A chain is a row of levels. Each has a point, lines
that leave the points of all levels ahead as they are, and for each point that these lines put in the
place of its own one a line that does so. So whatever walks do is done by one such line of each level,
one behind the other, and in one way alone.
"""

from turncoats.errors import Unlike
from turncoats.turns import back, put
from turncoats.walks import gone_back, renumbered, step_points, used_lines
from turncoats.webs import need_place, walks_from

# Of a level's own point: it is there without any line.
NO_LINE = -1


class Level:
    """A point, the numbers of lines that may move it, and by which line it is put where."""

    def __init__(self, point):
        self.point = point
        self.movers = []
        self.reached = {point: NO_LINE}
        self.seen = {}


def loops_of(web, place):
    """Walks from a place back to it, one for each way, of which all others come one behind the other."""
    walks = walks_from(web, place)
    return [walks[one] + [other] + gone_back(place, walks[other]) for one, other, _ in web.ways() if one in walks]


def walk_points(web, begin, walk):
    """The points of what a walk does."""
    steps = step_points(web)
    points = tuple(range(web.many() * web.size()))
    here = begin
    for place in walk:
        here, more = steps[here, place]
        points = put(points, more)
    return points


def points_between(one, other):
    """The points of what leads from one standing to another one of the same names and empty place."""
    size = one.web().size()
    points = list(range(one.web().many() * size))
    for name in one.names():
        turn = put(back(one.coat(name)), other.coat(name))
        for spot in range(size):
            points[other.where(name) * size + spot] = one.where(name) * size + turn[spot]
    return tuple(points)


def trimmed(fold):
    """The same fold without lines that its last one doesn't do."""
    used = used_lines(fold)
    numbers = {k: at for at, k in enumerate(used)}
    return tuple([renumbered(fold[k], numbers) for k in used])


class Chain:
    """What the walks from a place of a web back to it do."""

    def __init__(self, web, place):
        need_place(web, place)
        self._web = web
        self._place = place
        self._plain = tuple(range(web.many() * web.size()))
        self._done = []
        self._undone = []
        self._lines = []
        self._levels = []
        for walk in loops_of(web, place):
            self._take(walk_points(web, place, walk), walk, 0)
            self._complete()

    def size(self):
        """How many unlike things they do."""
        many = 1
        for level in self._levels:
            many *= len(level.reached)
        return many

    def fold(self, one, other):
        """A fold that leads from the one standing to the other one, or None."""
        for standing in (one, other):
            if standing.web() != self._web or standing.empty() != self._place:
                raise Unlike("a standing is of another web, or has another empty place")
        if one.names() != other.names():
            raise Unlike("the standings are of unlike names")
        left, numbers = self._sifted(points_between(one, other), 0)
        if left != self._plain:
            return None
        return trimmed((*self._lines, (self._place, tuple([("line", k, 1) for k in numbers]))))

    def _sifted(self, points, at):
        """What is left of points when a line of each level from one on is undone, and the lines' numbers."""
        numbers = []
        for level in self._levels[at:]:
            k = level.reached.get(points[level.point])
            if k is None:
                break
            if k != NO_LINE:
                numbers.append(k)
                points = put(self._undone[k], points)
        return points, numbers

    def _take(self, points, items, at):
        """Take up what a walk does that leaves all levels ahead of one; tell the last level that grew, or None."""
        left, numbers = self._sifted(points, at)
        if left == self._plain:
            return None
        k = self._add_line(left, [*[("line", one, -1) for one in reversed(numbers)], *items])
        while at == len(self._levels) or left[self._levels[at].point] == self._levels[at].point:
            if at == len(self._levels):
                self._levels.append(Level([point for point in self._plain if left[point] != point][0]))
            else:
                self._grow(self._levels[at], k)
                at += 1
        self._grow(self._levels[at], k)
        return at

    def _add_line(self, points, items):
        self._done.append(points)
        self._undone.append(back(points))
        self._lines.append((self._place, tuple(items)))
        return len(self._lines) - 1

    def _grow(self, level, mover):
        """Give a level one line more that moves its point."""
        level.movers.append(mover)
        row = list(level.reached)
        at = 0
        while at < len(row):
            for k in level.movers:
                goal = self._done[k][row[at]]
                if goal not in level.reached:
                    level.reached[goal] = self._behind(k, level.reached[row[at]])
                    row.append(goal)
            at += 1

    def _behind(self, first, second):
        """The number of a line that does one line and then another one, which may be none."""
        if second == NO_LINE:
            return first
        return self._add_line(put(self._done[first], self._done[second]), [("line", first, 1), ("line", second, 1)])

    def _complete(self):
        """See to it that each level has all that leaves the points of the levels ahead."""
        at = len(self._levels) - 1
        while at >= 0:
            grown = self._look(at)
            at = at - 1 if grown is None else grown

    def _look(self, at):
        """Take up what a level's lines do that leaves its point, until something is new; tell as _take does."""
        level = self._levels[at]
        for point in list(level.reached):
            for k in list(level.movers):
                if (point, k) not in level.seen:
                    level.seen[point, k] = True
                    grown = self._take_back(level, point, k, at + 1)
                    if grown is not None:
                        return grown
        return None

    def _take_back(self, level, point, mover, at):
        """Take up what a line does between the lines by which a level's point is put there and back."""
        points = self._done[mover]
        items = [("line", mover, 1)]
        there = level.reached[point]
        if there != NO_LINE:
            points = put(points, self._done[there])
            items = [*items, ("line", there, 1)]
        behind = level.reached[self._done[mover][point]]
        if behind != NO_LINE:
            points = put(self._undone[behind], points)
            items = [("line", behind, -1), *items]
        return self._take(points, items, at)
