"""Walks of the empty place, and folds, in which lines do lines ahead, so that few lines tell very long walks.

What a line does is told by points: a point is a spot at a place, numbered place * size + spot.
Points in their order tell for each of them from which point the patch comes that is there
behind; so what one line does and then another one is the one put into the other. The empty
place goes along as if a plain coat stood there.
"""

from turncoats.errors import NoFold, TooLong, Unlike
from turncoats.standings import Standing, need_walk
from turncoats.turns import back, is_number, put
from turncoats.webs import both_ways, is_below, is_place

MOST_STEPS = 400
MOST_ITEMS = 400


def walked(standing, walk):
    """The standing behind a walk."""
    need_walk(standing.web(), standing.empty(), walk)
    turns = both_ways(standing.web().ways())
    folk = standing.folk()
    there = {folk[name][0]: name for name in folk}
    here = standing.empty()
    for place in walk:
        name = there.pop(place)
        there[here] = name
        folk[name] = (here, put(folk[name][1], turns[place, here]))
        here = place
    return Standing(standing.web(), folk)


def does_line(item, many):
    """Whether anything is an item by which one of so many lines ahead is done or undone."""
    if not isinstance(item, tuple) or len(item) != 3 or item[0] != "line":
        return False
    return is_below(item[1], many) and is_number(item[2]) and item[2] in (1, -1)


def item_end(item, here, turns, ahead):
    """Where anything as an item ends that begins here, None where it isn't right."""
    if is_number(item):
        return item if (here, item) in turns else None
    if not does_line(item, len(ahead)):
        return None
    begin, end = ahead[item[1]]
    if item[2] == -1:
        begin, end = end, begin
    return end if begin == here else None


def line_end(line, web, turns, ahead):
    """Where anything as a line ends, None where it isn't right."""
    if not isinstance(line, tuple) or len(line) != 2:
        return None
    here, items = line
    if not is_place(web, here) or not isinstance(items, tuple):
        return None
    for item in items:
        here = item_end(item, here, turns, ahead)
        if here is None:
            return None
    return here


def right_lines(web, thing):
    """The pairs (begin, end) of the lines of anything, those ahead of the first that isn't right."""
    ahead = []
    if not isinstance(thing, tuple):
        return ahead
    turns = both_ways(web.ways())
    for line in thing:
        end = line_end(line, web, turns, ahead)
        if end is None:
            return ahead
        ahead.append((line[0], end))
    return ahead


def is_whole(thing, lines):
    """Whether anything is a fold, where that many of its lines are right."""
    return isinstance(thing, tuple) and 0 < len(thing) == len(lines)


def is_fold(web, thing):
    """Whether anything is a fold."""
    return is_whole(thing, right_lines(web, thing))


def need_fold(web, fold):
    """Refuse anything that is no fold; else tell the pairs (begin, end) of its lines."""
    lines = right_lines(web, fold)
    if not is_whole(fold, lines):
        raise NoFold(len(lines))
    return lines


def step_points(web):
    """A dict from (here, place) to that place and the points of the empty place's step to it from here."""
    size = web.size()
    turns = both_ways(web.ways())
    steps = {}
    for place, here in turns:
        points = list(range(web.many() * size))
        for spot in range(size):
            points[here * size + spot] = place * size + turns[place, here][spot]
            points[place * size + spot] = here * size + spot
        steps[here, place] = (place, points)
    return steps


def fold_points(web, fold):
    """The points of what a fold does."""
    steps = step_points(web)
    lines = {}
    points = []
    for k, (begin, items) in enumerate(fold):
        here = begin
        points = list(range(web.many() * web.size()))
        for item in items:
            here, more = steps[here, item] if is_number(item) else lines[item[1:]]
            points = put(points, more)
        lines[k, 1] = (here, points)
        lines[k, -1] = (begin, back(points))
    return points


def effect(web, fold):
    """What a fold does: (begin, end, rows), rows of (place, to, turn)."""
    begin, end = need_fold(web, fold)[-1]
    size = web.size()
    points = fold_points(web, fold)
    rows = []
    for to in range(web.many()):
        came = points[to * size:to * size + size]
        if to != end:
            rows.append((came[0] // size, to, tuple([point % size for point in came])))
    return begin, end, sorted(rows)


def led(standing, fold):
    """The standing behind a fold."""
    begin, _, rows = effect(standing.web(), fold)
    if begin != standing.empty():
        raise NoFold(len(fold) - 1)
    folk = {}
    for place, to, turn in rows:
        name = standing.who(place)
        folk[name] = (to, put(standing.coat(name), turn))
    return Standing(standing.web(), folk)


def line_lengths(fold):
    """How many steps each line of a fold is."""
    told = []
    for _, items in fold:
        told.append(sum([1 if is_number(item) else told[item[1]] for item in items]))
    return told


def length(web, fold):
    """How many steps a fold is."""
    need_fold(web, fold)
    return line_lengths(fold)[-1]


def used_lines(fold):
    """The numbers of a fold's last line and of all that are done by it, rising."""
    used = {len(fold) - 1: True}
    for k in reversed(range(len(fold))):
        if k in used:
            for item in fold[k][1]:
                if not is_number(item):
                    used[item[1]] = True
    return sorted(used)


def gone_back(begin, walk):
    """The walk back from a walk's end to where it began."""
    return [*walk[:-1][::-1], begin] if walk else []


def unfolded(web, fold, *, most=MOST_STEPS):
    """The walk that a fold is, of so many steps at the most."""
    need_fold(web, fold)
    if line_lengths(fold)[-1] > most:
        raise TooLong(most)
    walks = {}
    walk = []
    # Lines that the last one doesn't do may be of any length.
    for k in used_lines(fold):
        walk = []
        for item in fold[k][1]:
            if is_number(item):
                walk.append(item)
            else:
                done = walks[item[1]]
                walk.extend(done if item[2] == 1 else gone_back(fold[item[1]][0], done))
        walks[k] = walk
    return walk


def doing(begin, numbers):
    """A line that does lines of such numbers one behind the other."""
    return begin, tuple([("line", k, 1) for k in numbers])


def folded(begin, walk):
    """A fold of a walk, which isn't looked at."""
    lines = [(begin, tuple(walk[:MOST_ITEMS]))]
    for at in range(MOST_ITEMS, len(walk), MOST_ITEMS):
        lines.append((walk[at - 1], tuple(walk[at:at + MOST_ITEMS])))
    if len(lines) > 1:
        lines.append(doing(begin, list(range(len(lines)))))
    return tuple(lines)


def turned_back(web, fold):
    """A fold that undoes a fold."""
    _, end = need_fold(web, fold)[-1]
    return (*fold, (end, (("line", len(fold) - 1, -1),)))


def renumbered(line, numbers):
    """A line that does lines by other numbers, which a row or dict of numbers tells."""
    begin, items = line
    return begin, tuple([item if is_number(item) else ("line", numbers[item[1]], item[2]) for item in items])


def one_behind_other(web, one, other):
    """A fold that does one fold and then another one."""
    begin, end = need_fold(web, one)[-1]
    if need_fold(web, other)[-1][0] != end:
        raise Unlike("the second begins elsewhere than the first ends")
    numbers = list(range(len(one), len(one) + len(other)))
    lines = [*one, *[renumbered(line, numbers) for line in other]]
    return (*lines, doing(begin, (len(one) - 1, len(lines) - 1)))
