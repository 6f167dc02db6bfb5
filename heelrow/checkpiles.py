"""The checker's own look at calls and piles."""

from heelrow.bounds import MOST_CALLS
from heelrow.rows import follows


def are_calls(web, thing):
    """Whether a thing of any kind is CALLS of the web."""
    return isinstance(thing, tuple) and len(thing) <= MOST_CALLS and all([follows(web, name) for name in thing])


def are_piles(web, thing):
    """Whether a thing of any kind is PILES of the web."""
    if not isinstance(thing, tuple) or len(thing) != len(web):
        return False
    if not all([isinstance(pile, tuple) for pile in thing]):
        return False
    found = [name for pile in thing for name in pile]
    return all([web.has(name) for name in found]) and sorted(found) == list(web.names())


def lay(web, calls):
    """The PILES that CALLS lay."""
    at = {name: [name] for name in web.names()}
    for name in reversed(calls):
        at[web.whom(name)] += at[name]
        at[name] = []
    return tuple([tuple(at[name]) for name in web.names()])


def all_runs(web, piles):
    """How many runs all who follow have together."""
    many = 0
    for at, pile in zip(web.names(), piles):
        ahead = []
        for name in pile:
            # Who stands here at one above them is in a run of each, from them up, who is below that one; it is a
            # new run of those of whom the one ahead in the pile is in none.
            here = [one for one in (name, *web.above(name)) if at in web.above(one)]
            many += len([one for one in here if one not in ahead])
            ahead = here
    return many


def stands_at(web, piles, name):
    """At whom NAME stands."""
    return [at for at, pile in zip(web.names(), piles) if name in pile][0]


def bars_two(web, piles, word, high, low):
    """Whether HIGH, above LOW, stands lower, or behind in one pile, as the word says."""
    if high not in web.above(low):
        return False
    high_at = stands_at(web, piles, high)
    low_at = stands_at(web, piles, low)
    if word == "below":
        return high_at != low_at and high_at not in web.above(low_at)
    flat = [name for pile in piles for name in pile]
    return word == "turn" and high_at == low_at and flat.index(high) > flat.index(low)


def bars(web, piles, thing):
    """Whether a thing of any kind is something that bars PILES."""
    if not isinstance(thing, tuple) or not 2 <= len(thing) <= 3 or not isinstance(thing[0], str):
        return False
    if not all([web.has(name) for name in thing[1:]]):
        return False
    if len(thing) == 2:
        at = stands_at(web, piles, thing[1])
        return thing[0] == "stray" and at not in (thing[1], *web.above(thing[1]))
    return bars_two(web, piles, *thing)
