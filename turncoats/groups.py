"""Groups of turns: how they are made, told apart, cut into lots and led to numbers."""

from itertools import permutations

from turncoats.errors import NoGroup, NoTurn
from turncoats.turns import SIZES, back, need_size, need_turn, plain, put, size_of


def need_turns(turns):
    """Refuse what is no list of turns, be they of whatever sizes."""
    if not isinstance(turns, (list, tuple)):
        raise NoTurn("a list of turns is asked for")
    for turn in turns:
        need_turn(turn)


def need_all_of(turns, size):
    """Refuse turns that aren't all of the size."""
    if not all([len(turn) == size for turn in turns]):
        raise NoTurn("a turn is of another size")


def need_group(group, sizes):
    """Refuse what is a group of none of the sizes; else tell its size."""
    for size in sizes:
        if is_group(group, size):
            return size
    raise NoGroup("a group is a rising tuple of turns that holds all that comes of them")


def letters_of(turns):
    """A dict from what one pair of a word puts in to that pair, pairs rising."""
    letters = {}
    for number, turn in enumerate(turns):
        # Of pairs that put in the same, a least word has the least alone.
        letters.setdefault(back(turn), (number, -1))
        letters.setdefault(turn, (number, 1))
    return letters


def next_row(row, words, letters):
    """Add to words those of what first comes by one pair more than a row's turns; tell it."""
    found = []
    for turn in row:
        for one, letter in letters.items():
            behind = put(turn, one)
            if behind not in words:
                words[behind] = words[turn] + [letter]
                found.append(behind)
    return found


def words_of(turns, size):
    """A dict from all that comes of turns of the size to its word."""
    letters = letters_of(turns)
    words = {plain(size): []}
    row = [plain(size)]
    # A row's words are rising, so what comes first to a turn is its least.
    while row:
        row = next_row(row, words, letters)
    return words


def few_and_all(turns, size):
    """A few of the turns, of which the same group comes as of all, and that group."""
    few = []
    group = (plain(size),)
    for turn in turns:
        if turn not in group:
            few.append(turn)
            group = tuple(sorted(words_of(few, size)))
    return few, group


def made(turns, size):
    """The group that comes of a list of turns of the size."""
    need_turns(turns)
    need_size(size)
    need_all_of(turns, size)
    return few_and_all(turns, size)[1]


def is_group(thing, size):
    """Whether anything is a group of the size."""
    need_size(size)
    if not isinstance(thing, tuple) or not all([size_of(one) == size for one in thing]):
        return False
    # That it is rising, with the plain one and closed is all in this.
    return few_and_all(thing, size)[1] == thing


def word(turns, goal):
    """The least of the shortest lists of pairs that come to the goal, or None."""
    need_turns(turns)
    size = need_turn(goal)
    need_all_of(turns, size)
    return words_of(turns, size).get(goal)


def lot_of(turn, group):
    """The same as lot, for what has been looked at already."""
    return tuple(sorted([put(turn, one) for one in group]))


def lot(turn, group):
    """The rising tuple of the turn with each of the group's put into it."""
    size = need_turn(turn)
    need_group(group, (size,))
    return lot_of(turn, group)


def lots(group, size):
    """The rising list of all lots by a group."""
    need_size(size)
    need_group(group, (size,))
    found = []
    known = {}
    # Turns come rising here, so each lot is met by its least, and they rise.
    for turn in permutations(range(size)):
        if turn not in known:
            row = lot_of(turn, group)
            found.append(row)
            for one in row:
                known[one] = True
    return found


def commuted(group):
    """The group made of a, b, a undone, b undone, for any two of the group."""
    size = need_group(group, SIZES)
    found = {}
    for a in group:
        for b in group:
            found[put(put(a, b), put(back(a), back(b)))] = True
    return few_and_all(list(found), size)[1]


def number_rows(many, rest):
    """All lists of so many numbers below rest."""
    rows = [[]]
    for _ in range(many):
        rows = [row + [number] for row in rows for number in range(rest)]
    return rows


def told_by(words, numbers, rest):
    """A dict from turns to the sum's rest of the numbers that their words pick."""
    return {turn: sum([numbers[k] * way for k, way in words[turn]]) % rest for turn in words}


def is_leading(told, few, rest):
    """Whether sums are told, looked at by a few turns of which all the others come."""
    for turn in told:
        for one in few:
            if told[put(turn, one)] != (told[turn] + told[one]) % rest:
                return False
    return True


def leading_rows(group, rest):
    """What the leadings to numbers below rest tell of a group's turns, rising."""
    size = need_group(group, SIZES)
    few = few_and_all(group, size)[0]
    words = words_of(few, size)
    rows = []
    for numbers in number_rows(len(few), rest):
        told = told_by(words, numbers, rest)
        if is_leading(told, few, rest):
            rows.append([told[turn] for turn in group])
    return sorted(rows)


def leadings(group):
    """The list of all leadings of a group to signs."""
    rows = leading_rows(group, 2)
    return [{turn: 1 - 2 * n for turn, n in zip(group, row)} for row in rows]


def thirds(group):
    """The list of all leadings of a group to thirds."""
    rows = leading_rows(group, 3)
    return [{turn: n for turn, n in zip(group, row)} for row in rows]
