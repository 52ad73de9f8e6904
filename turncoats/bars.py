"""Bars: what shows that no walk leads from a standing to what grants a wish."""

from turncoats.finds import fives_found, signs_found, thirds_found
from turncoats.marks import keeps_five, keeps_sign, keeps_triple, numbers_of
from turncoats.nooks import (
    Case, is_barred, is_lot, is_placed, is_still, is_stranger, near_wish, no_numbers, nooks_of,
)
from turncoats.rounds import abouts
from turncoats.wishes import need_wish


def still_bar(standing, wish):
    """A bar of somebody whom no walk moves, or None."""
    for name in wish.told():
        if is_still(standing, wish, name):
            return "still", name
    return None


def folk_bar(case):
    """A bar of somebody who is asked to come from elsewhere to the nook, or None."""
    for name in sorted(case.asked):
        if is_stranger(case, name):
            return "folk", case.nook.part, name
    return None


def about_bar(case):
    """A bar of a round about which the empty place goes in vain, or None."""
    if case.nook.form != "round" or abouts(case.start, case.near, case.nook.part) != []:
        return None
    return "about", case.nook.part


def lot_bar(case):
    """A bar of somebody who can't come to be dressed as asked, or None."""
    if case.nook.form == "round":
        return None
    for name in case.people:
        if is_placed(case, name) and is_lot(case, name, case.nook.group):
            return "lot", case.nook.part, name, case.nook.group
    return None


def sign_bar(case):
    """A bar of signs, or None."""
    if case.nook.form in ("way", "round"):
        return None
    for leading, signs in signs_found(case.nook):
        if is_barred(case, numbers_of(leading), 2, 1, keeps_sign):
            return "sign", case.nook.part, leading, signs
    return None


def thirds_bar(case):
    """A bar of thirds, or None."""
    if case.nook.form != "five":
        return None
    for leading, rows in thirds_found(case.nook):
        if is_barred(case, leading, 3, rows[case.nook.base], keeps_triple):
            return "thirds", case.nook.part, leading, rows
    return None


def seven_bar(case):
    """A bar of pairs of six places, or None."""
    if case.nook.form != "seven":
        return None
    web = case.start.web()
    for rows in fives_found(web, case.nook):
        if is_barred(case, no_numbers(web), 1, rows[case.nook.base], keeps_five):
            return "seven", case.nook.part, rows
    return None


# In the order of the kinds, behind "apart" and "still".
BARS = (folk_bar, about_bar, lot_bar, sign_bar, thirds_bar, seven_bar)


def bar(standing, wish):
    """The first bar between a standing and what grants a wish, None where a walk leads there."""
    need_wish(standing, wish)
    near = near_wish(standing, wish)
    if near is None:
        return ("apart",)
    still = still_bar(standing, wish)
    if still is not None:
        return still
    cases = [Case(standing, near, nook) for nook in nooks_of(standing.web(), standing.empty())]
    for look in BARS:
        for case in cases:
            found = look(case)
            if found is not None:
                return found
    return None
