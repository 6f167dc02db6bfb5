"""Piles: what calls do from whichever row, told as who comes to stand at each person."""

from heelrow.bounds import BIG, is_whole
from heelrow.errors import NoCount, NoPiles
from heelrow.rows import check_calls, check_row, check_web


def first_wrong_pile(web, piles):
    """The number of the first that is no tuple of NAMEs that don't stand ahead already, None where there is none."""
    ahead = []
    for place, pile in enumerate(piles):
        if not isinstance(pile, tuple):
            return place
        for name in pile:
            if not web.has(name) or name in ahead:
                return place
            ahead.append(name)
    return None


def check_piles(web, piles):
    """Refuse what are no PILES of the web."""
    if not isinstance(piles, tuple) or len(piles) != len(web):
        raise NoPiles(None)
    place = first_wrong_pile(web, piles)
    if place is not None or sum([len(pile) for pile in piles]) < len(web):
        raise NoPiles(place)


def home_piles(web):
    """The PILES in which each stands at home, alone."""
    return tuple([(name,) for name in web.names()])


def pile_at(web, piles):
    """For each person the pile that stands there."""
    return {name: pile for name, pile in zip(web.names(), piles)}


def stand_of(web, piles):
    """For each person the one at whom they stand."""
    return {name: at for at, pile in zip(web.names(), piles) for name in pile}


def replaced(names, by):
    """These names, each replaced by their pile."""
    return tuple([one for name in names for one in by[name]])


def composed(web, piles, other):
    """The PILES that lay what OTHER lays on what PILES lay."""
    by = pile_at(web, other)
    return tuple([replaced(pile, by) for pile in piles])


def piled(web, calls):
    """The PILES of CALLS that are known to be such."""
    at = pile_at(web, home_piles(web))
    for name in calls[::-1]:
        whom = web.whom(name)
        at[whom] = at[whom] + at[name]
        at[name] = ()
    return tuple([at[name] for name in web.names()])


def laid(web, row, piles):
    """The ROW with each person replaced by their pile."""
    check_web(web)
    check_row(web, row)
    check_piles(web, piles)
    return replaced(row, pile_at(web, piles))


def piles(web, calls):
    """The PILES by which CALLS lead from whichever ROW to what is laid."""
    check_web(web)
    check_calls(web, calls)
    return piled(web, calls)


def behind(web, piles, other):
    """Each of PILES with each person in it replaced by their pile of OTHER."""
    check_web(web)
    check_piles(web, piles)
    check_piles(web, other)
    return composed(web, piles, other)


def again(web, piles, times):
    """PILES behind themselves, TIMES times."""
    check_web(web)
    check_piles(web, piles)
    if not is_whole(times, 0, BIG):
        raise NoCount(times)
    told = home_piles(web)
    # TIMES may be far too many to go one by one: PILES are doubled, and taken where TIMES has that power of two.
    power = piles
    left = times
    while left > 0:
        if left % 2 == 1:
            told = composed(web, told, power)
        power = composed(web, power, power)
        left = left // 2
    return told


def alike(web, calls, other):
    """Whether CALLS and OTHER lead from every ROW to the same."""
    check_web(web)
    check_calls(web, calls)
    check_calls(web, other)
    return piled(web, calls) == piled(web, other)


def first_apart(web, one, two):
    """The two at whom the first person stands who stands at unlike ones, None where there is no such person."""
    for name in web.names():
        if one[name] != two[name]:
            return (one[name], two[name])
    return None


def parting(web, calls, other):
    """A ROW from which CALLS and OTHER lead to unlike ones, None where they are alike."""
    if alike(web, calls, other):
        return None
    apart = first_apart(web, stand_of(web, piled(web, calls)), stand_of(web, piled(web, other)))
    if apart is None:
        # All stand at the same ones, so some pile has another turn, which each ROW shows.
        return web.names()
    # Somebody stands at a lower one by the one, at a higher one by the other: with the lower one first and who
    # leads them second, that person comes ahead of who leads by the one, behind by the other.
    low = max(apart, key=lambda name: len(web.above(name)))
    front = (low, web.above(low)[-1])
    return (*front, *[name for name in web.names() if name not in front])


def idle(web, calls):
    """The numbers of the calls each of which alone can be left out, so that what is left is alike."""
    check_web(web)
    check_calls(web, calls)
    whole = piled(web, calls)
    return tuple([at for at in range(len(calls)) if piled(web, calls[:at] + calls[at + 1:]) == whole])
