"""What several tests use: all turns, and things that are none of what is asked for."""

from itertools import permutations

SIZES = (2, 3, 4, 5)
ALL = {size: list(permutations(range(size))) for size in SIZES}


def deep(kind):
    """Brackets of a kind, far more deeply nested than Python's own calls may be."""
    thing = kind()
    for _ in range(3000):
        thing = kind([thing])
    return thing


NO_SIZES = [
    0, 1, 6, 7, -1, -2, -3, 10 ** 30, -10 ** 5000, True, False, None, "", "2", "3", "size",
    [], [3], (), (3,), (0, 1, 2), {}, {3: 3}, deep(list), deep(tuple),
]

NO_TURNS = [
    None, True, False, 0, 1, 2, 5, -1, 10 ** 5000, "", "0", "01", "012", "01234",
    [], [0, 1], [1, 0], [0, 1, 2], [4, 3, 2, 1, 0], {}, {0: 0, 1: 1}, {0: 1, 1: 0, 2: 2},
    (), (0,), (1,), (0, 1, 2, 3, 4, 5), (5, 4, 3, 2, 1, 0), tuple(range(300)),
    (0, 0), (1, 1), (0, 2), (1, 2), (-1, 0), (0, -1), (2, 1), (0, 10 ** 5000),
    (0, 1, 1), (0, 0, 1), (0, 1, 3), (1, 2, 3), (-1, 0, 1), (2, 2, 2),
    (0, 1, 2, 2), (0, 1, 2, 4), (1, 2, 3, 4), (0, 1, 2, 3, 3), (0, 1, 2, 3, 5), (0, 1, 2, 3, -1),
    (False, True), (True, False), (0, True), (False, 1), (True, 0), (1, False), (0, True, 2),
    (False, 1, 2), (2, True, 0), (0, True, 2, 3), (0, 1, 2, 3, False), (4, 3, 2, True, 0),
    ("0", "1"), ("a", "b"), (0, "1"), ("01", "10"), (None, None), (0, None), (None, 0, 1),
    ([0], [1]), (0, [1]), ([0, 1],), ((0, 1),), ((0, 1), (1, 0)), ((0,), (1,)), (0, (1,)),
    ({}, {}), (0, {}), ({0: 1}, 0), (0, 1, 2, 3, [4]), deep(list), deep(tuple), (0, deep(list)),
    (deep(tuple), 1),
]

# Things that are no list, whatever is asked to be in it.
NO_LISTS = [None, True, False, 0, 3, 10 ** 5000, "", "01", "turns", {}, {0: (0, 1)}, {(0, 1): (1, 0)}]


def plain_of(size):
    return tuple(range(size))


def composed(one, other):
    """One turn with the other put into it, by the document's words alone."""
    return tuple(one[other[k]] for k in range(len(other)))


def inverse(turn):
    told = [None] * len(turn)
    for spot, patch in enumerate(turn):
        told[patch] = spot
    return tuple(told)


def closure(turns, size):
    """All that comes of turns, put into one another until nothing new comes."""
    found = {plain_of(size)} | set(turns)
    while True:
        more = {composed(a, b) for a in found for b in turns} - found
        if not more:
            return tuple(sorted(found))
        found |= more


# Turns of which groups of many kinds come, for each size.
SEEDS = {
    2: [[], [(0, 1)], [(1, 0)]],
    3: [[], [(1, 0, 2)], [(0, 2, 1)], [(2, 1, 0)], [(1, 2, 0)], [(1, 0, 2), (0, 2, 1)]],
    4: [
        [], [(1, 0, 2, 3)], [(1, 0, 3, 2)], [(1, 2, 0, 3)], [(1, 2, 3, 0)],
        [(1, 0, 2, 3), (0, 1, 3, 2)], [(1, 0, 3, 2), (2, 3, 0, 1)], [(1, 0, 2, 3), (0, 2, 1, 3)],
        [(1, 2, 3, 0), (2, 1, 0, 3)], [(1, 2, 0, 3), (0, 2, 3, 1)], [(1, 0, 2, 3), (1, 2, 3, 0)],
    ],
    5: [
        [], [(1, 0, 2, 3, 4)], [(1, 0, 3, 2, 4)], [(0, 1, 3, 4, 2)], [(1, 2, 3, 0, 4)], [(1, 2, 3, 4, 0)],
        [(1, 0, 3, 4, 2)], [(1, 0, 2, 3, 4), (0, 1, 3, 2, 4)], [(1, 0, 2, 3, 4), (0, 1, 3, 4, 2), (0, 1, 3, 2, 4)],
        [(1, 0, 3, 2, 4), (0, 1, 3, 4, 2)], [(1, 2, 3, 4, 0), (0, 4, 3, 2, 1)],
        [(1, 2, 3, 4, 0), (0, 2, 4, 1, 3)], [(1, 2, 0, 3, 4), (0, 2, 3, 1, 4)],
        [(1, 2, 0, 3, 4), (1, 2, 3, 4, 0)], [(1, 0, 2, 3, 4), (1, 2, 3, 4, 0)],
    ],
}

GROUPS = {size: [closure(seed, size) for seed in SEEDS[size]] for size in SIZES}


def no_groups():
    """Things that are a group of no size."""
    swap, both = (1, 0), ((0, 1), (1, 0))
    third = ((0, 1, 2), (1, 2, 0), (2, 0, 1))
    return [
        None, True, False, 0, 2, 10 ** 5000, "", "01", "group", [], {}, (), {both: both}, {(0, 1): True},
        # Lists in a tuple's place.
        [(0, 1)], [(0, 1), (1, 0)], list(third), ([0, 1],), ([0, 1], [1, 0]), ((0, 1), [1, 0]),
        # Without the plain one.
        (swap,), ((1, 2, 0), (2, 0, 1)), ((0, 2, 1),),
        # Not rising, or something twice.
        both[::-1], third[::-1], (third[0], third[2], third[1]), ((0, 1), (0, 1)), both + (swap,), third + third,
        # Not closed.
        ((0, 1, 2), (1, 2, 0)), ((0, 1, 2), (0, 2, 1), (1, 0, 2)), tuple(ALL[3][:5]), tuple(ALL[4][:23]),
        tuple(ALL[5][:119]), ((0, 1, 2, 3), (1, 2, 3, 0)),
        # Of several sizes, or with what is no turn.
        ((0, 1), (0, 1, 2)), ((0, 1), (0, 1, 2), (1, 0)), ((0, 1), (1, 0, 2)), (0, 1), (0, 1, 2), ((0,),), ((),),
        (tuple(range(6)),), ((0, 1), None), ((0, 1), "10"), ((0, 1), (1, 1)), ((0, 1), (1, 2)), (None,), ("01",),
        # Truths in a number's place, though Python has these tuples alike.
        ((0, True),), ((False, True), (True, False)), ((0, 1), (True, 0)), ((0, 1), (1, False)),
        ((0, 1, 2), (True, 2, 0), (2, 0, 1)), ((0, 1), {}), ({}, {}), deep(list), deep(tuple),
    ]


NO_GROUPS = no_groups()


def refused(case, error, what, *args, **told):
    """That a call is refused, by just that class; what is raised."""
    with case.assertRaises(Exception) as held:
        what(*args, **told)
    case.assertIs(type(held.exception), error)
    return held.exception
