"""Turns: tuples of the numbers below a size, each once, and what comes of them."""

from turncoats.errors import NoSize, NoTurn

SIZES = (2, 3, 4, 5)


def is_number(thing):
    """Whether anything is a number."""
    # To Python truths are ints, to the document they are no numbers.
    return isinstance(thing, int) and not isinstance(thing, bool)


def size_of(thing):
    """The size of which anything is a turn, 0 where it is none of any size."""
    if not isinstance(thing, tuple) or len(thing) not in SIZES:
        return 0
    # Looked at ahead of sorting, as unlike kinds can't be sorted.
    if not all([is_number(part) for part in thing]):
        return 0
    return len(thing) if sorted(thing) == list(range(len(thing))) else 0


def need_size(size):
    """Refuse anything that is no size."""
    if not is_number(size) or size not in SIZES:
        raise NoSize("a size is 2, 3, 4 or 5")


def need_turn(turn):
    """Refuse what is no turn of any size; else tell its size."""
    size = size_of(turn)
    if size == 0:
        raise NoTurn("a turn is a tuple of the numbers below a size, each once")
    return size


def put(one, other):
    """The same as into, for turns that have been looked at already."""
    return tuple([one[k] for k in other])


def back(turn):
    """The same as undone, for a turn that has been looked at already."""
    return tuple([turn.index(k) for k in range(len(turn))])


def is_turn(thing, size):
    """Whether anything is a turn of the size."""
    need_size(size)
    return size_of(thing) == size


def plain(size):
    """The turn that leaves each patch at its spot."""
    need_size(size)
    return tuple(range(size))


def into(one, other):
    """The one turn with the other one put into it."""
    if need_turn(one) != need_turn(other):
        raise NoTurn("the turns are of unlike sizes")
    return put(one, other)


def undone(turn):
    """The turn which put into this one is plain, and this one into that, too."""
    need_turn(turn)
    return back(turn)


def times(turn, n):
    """So many of a turn put into one another, undone ones below 0."""
    # By whole rounds of its order nothing comes about, so n may be any.
    many = n % order(turn)
    behind = plain(len(turn))
    for _ in range(many):
        behind = put(behind, turn)
    return behind


def order(turn):
    """The least number from 1 on of a turn that comes to plain."""
    start = plain(need_turn(turn))
    behind = turn
    many = 1
    while behind != start:
        behind = put(behind, turn)
        many += 1
    return many


def sign(turn):
    """1, or -1 where a greater number is ahead of a lesser one oddly often."""
    size = need_turn(turn)
    told = 1
    for high in range(size):
        for low in range(high):
            if turn[low] > turn[high]:
                told = -told
    return told
