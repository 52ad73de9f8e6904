"""The judge: whether anything is a bar. It finds nothing itself; it looks at what it is handed, way by way."""

from turncoats.groups import is_group, leadings, thirds
from turncoats.marks import (
    SIGNS, carry_five, carry_sign, carry_triple, is_carried, is_five, is_marking, is_sign, is_triple, keeps_five,
    keeps_sign, keeps_triple, numbers_of,
)
from turncoats.nooks import (
    Case, Nook, is_barred, is_lot, is_placed, is_still, is_stranger, joined_parts, near_wish, no_numbers,
)
from turncoats.parts import root
from turncoats.rounds import abouts
from turncoats.standings import is_name
from turncoats.turns import is_number, size_of
from turncoats.wishes import need_wish

# How many things there are in a bar of each kind.
LENGTHS = {"apart": 1, "still": 2, "folk": 3, "about": 2, "lot": 4, "sign": 4, "thirds": 4, "seven": 3}


def is_for_all(case, group):
    """Whether anything is a group in which the own turns of all a nook's ways are."""
    return is_group(group, case.start.web().size()) and all([turn in group for turn in case.nook.own.values()])


def is_leading(case, thing, numbers):
    """Whether anything is a dict to some of the numbers from the turns of a group that holds all own turns."""
    if not isinstance(thing, dict):
        return False
    size = case.start.web().size()
    for turn in thing:
        if size_of(turn) != size or not is_number(thing[turn]) or thing[turn] not in numbers:
            return False
    return is_for_all(case, tuple(sorted(thing)))


def is_folk_bar(case, told):
    """Whether somebody is asked to come from elsewhere to the nook."""
    return is_name(told[0]) and is_stranger(case, told[0])


def is_about_bar(case, told):
    """Whether the empty place goes about the nook in vain."""
    return case.nook.form == "round" and abouts(case.start, case.near, case.nook.part) == []


def is_lot_bar(case, told):
    """Whether somebody can't come to be dressed as asked, by such a group."""
    name, group = told
    if case.nook.form == "round" or not is_name(name) or not is_placed(case, name):
        return False
    return is_for_all(case, group) and is_lot(case, name, group)


def is_sign_bar(case, told):
    """Whether exchanges don't go with a leading to signs, by such signs of the places."""
    leading, signs = told
    if case.nook.form in ("way", "round") or not is_leading(case, leading, SIGNS):
        return False
    if leading not in leadings(tuple(sorted(leading))) or not is_marking(signs, case.nook.part, is_sign):
        return False
    numbers = numbers_of(leading)
    return is_carried(case.nook.own, numbers, signs, carry_sign) and is_barred(case, numbers, 2, 1, keeps_sign)


def is_thirds_bar(case, told):
    """Whether pairings don't go with a leading to thirds, by such rows of the places."""
    leading, rows = told
    if case.nook.form != "five" or not is_leading(case, leading, (0, 1, 2)):
        return False
    if leading not in thirds(tuple(sorted(leading))) or not is_marking(rows, case.nook.part, is_triple):
        return False
    if not is_carried(case.nook.own, leading, rows, carry_triple):
        return False
    return is_barred(case, leading, 3, rows[case.nook.base], keeps_triple)


def is_seven_bar(case, told):
    """Whether pairs of six places don't stay, by such rows of the places."""
    rows = told[0]
    if case.nook.form != "seven" or not is_marking(rows, case.nook.part, is_five):
        return False
    numbers = no_numbers(case.start.web())
    if not is_carried(case.nook.own, numbers, rows, carry_five):
        return False
    return is_barred(case, numbers, 1, rows[case.nook.base], keeps_five)


BARS = {
    "folk": is_folk_bar, "about": is_about_bar, "lot": is_lot_bar, "sign": is_sign_bar, "thirds": is_thirds_bar,
    "seven": is_seven_bar,
}


def is_part(standing, thing):
    """Whether anything is a part that is joined to the empty place."""
    if not isinstance(thing, tuple) or not all([is_number(place) for place in thing]):
        return False
    return thing in joined_parts(standing.web(), standing.empty())


def bars(standing, wish, thing):
    """Whether anything is a bar between a standing and what grants a wish."""
    need_wish(standing, wish)
    if not isinstance(thing, tuple) or len(thing) == 0 or not isinstance(thing[0], str):
        return False
    if len(thing) != LENGTHS.get(thing[0]):
        return False
    near = near_wish(standing, wish)
    if thing[0] == "apart":
        return near is None
    if thing[0] == "still":
        return is_name(thing[1]) and thing[1] in wish.told() and is_still(standing, wish, thing[1])
    if near is None or not is_part(standing, thing[1]):
        return False
    web = standing.web()
    case = Case(standing, near, Nook(web, thing[1], root(web, thing[1], standing.empty())))
    look = BARS[thing[0]]
    return look(case, thing[2:])
