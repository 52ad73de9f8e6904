"""Reach: a walk from a standing to what grants a wish, or a bar; and how many standings come of one."""

from math import factorial

from turncoats.bars import bar
from turncoats.chains import Chain
from turncoats.finds import fives_found, signs_found, thirds_found
from turncoats.marks import keeps_five, keeps_sign, keeps_triple, numbers_of
from turncoats.nooks import Case, changes, near_wish, no_numbers, nooks_of, own_at, placings
from turncoats.rounds import about, abouts, period
from turncoats.standings import Standing
from turncoats.turns import put
from turncoats.walks import folded, gone_back, one_behind_other
from turncoats.webs import walks_from


class Tie:
    """What each walk keeps at a nook: a mark at its root, by the numbers of changes and their sum's rest."""

    def __init__(self, numbers, rest, mark, kept):
        self.numbers = numbers
        self.rest = rest
        self.mark = mark
        self.kept = kept


def ties_of(web, nook):
    """All that each walk keeps at a nook that is no round, beside that changes are in its group."""
    base = nook.base
    ties = []
    if nook.form != "way":
        ties.extend([Tie(numbers_of(leading), 2, signs[base], keeps_sign) for leading, signs in signs_found(nook)])
    if nook.form == "five":
        ties.extend([Tie(leading, 3, rows[base], keeps_triple) for leading, rows in thirds_found(nook)])
    if nook.form == "seven":
        ties.extend([Tie(no_numbers(web), 1, rows[base], keeps_five) for rows in fives_found(web, nook)])
    return ties


def totals(case, ties):
    """A dict from the sums that changes can come to, one for each tie, to such changes of the folk, in order."""
    found = {tuple([0 for tie in ties]): []}
    for name in case.people:
        told = {}
        for change in changes(case, name):
            if change in case.nook.group:
                told.setdefault(tuple([tie.numbers[change] for tie in ties]), change)
        found = added(found, told, [tie.rest for tie in ties])
    return found


def added(found, told, rests):
    """A dict like found, for one more of the folk, whose changes are told by their numbers."""
    behind = {}
    for ahead in found:
        for numbers in told:
            total = tuple([(one + other) % rest for one, other, rest in zip(ahead, numbers, rests)])
            behind.setdefault(total, found[ahead] + [told[numbers]])
    return behind


def is_kept(ties, came, total):
    """Whether a placing with such sums of changes keeps all ties."""
    for tie, n in zip(ties, total):
        kept = tie.kept
        if not kept(tie.mark, came, n):
            return False
    return True


def placed(case):
    """Where the folk of a nook that is no round may come by a walk, as is wished: a dict to (place, coat)."""
    ties = ties_of(case.start.web(), case.nook)
    found = totals(case, ties)
    for came in placings(case):
        for total in found:
            if is_kept(ties, came, total):
                return stands(case, came, found[total])
    return {}


def stands(case, came, row):
    """The dict from a nook's folk to (place, coat) behind a placing and their changes, in order."""
    place_of = {came[place]: place for place in came}
    found = {}
    for name, change in zip(case.people, row):
        place = place_of[case.start.where(name)]
        found[name] = (place, put(put(own_at(case, name), change), case.nook.high[place]))
    return found


def goal(standing, near):
    """A standing that grants a near wish, to which a walk leads, where there is no bar."""
    behind = standing
    for nook in nooks_of(standing.web(), standing.empty()):
        if nook.form == "round":
            behind = about(behind, nook.part, abouts(behind, near, nook.part)[0])
        else:
            folk = behind.folk()
            folk.update(placed(Case(behind, near, nook)))
            behind = Standing(standing.web(), folk)
    return behind


def reach(standing, wish):
    """A fold that leads to a standing that grants a wish, or a bar."""
    found = bar(standing, wish)
    if found is not None:
        return "bar", found
    web = standing.web()
    fold = Chain(web, standing.empty()).fold(standing, goal(standing, near_wish(standing, wish)))
    walk = walks_from(web, wish.empty())[standing.empty()]
    if walk:
        fold = one_behind_other(web, fold, folded(standing.empty(), gone_back(wish.empty(), walk)))
    return "fold", fold


def orders_of(nook):
    """How many orders of a nook's folk come about."""
    if nook.form == "seven":
        return 120
    orders = factorial(len(nook.places))
    # Where no round is of an odd number of places the leading that tells 1 alone goes with signs.
    even = [leading for leading, _ in signs_found(nook) if -1 not in leading.values()]
    return orders // 2 if even else orders


def come_of_nook(web, nook):
    """How many things walks do to a nook's folk."""
    if nook.form == "way":
        return 1
    if nook.form == "round":
        return period(web, nook.part)
    many = orders_of(nook)
    for _ in nook.places:
        many *= len(nook.group)
    if [leading for leading, _ in signs_found(nook) if -1 in leading.values()]:
        many = many // 2
    if nook.form == "five" and thirds_found(nook):
        many = many // 3
    return many


def come_of(web, place):
    """How many standings come of one whose empty place is that, it too."""
    many = len(web.joined(place))
    for nook in nooks_of(web, place):
        many *= come_of_nook(web, nook)
    return many
