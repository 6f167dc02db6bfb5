"""What calls can do at all: which piles come, and by the fewest calls."""

from heelrow.bounds import MOST_COUNTED_CALLS
from heelrow.errors import Barred, TooMany
from heelrow.piles import check_piles, home_piles, pile_at, stand_of
from heelrow.rows import check_web


def pairs(web):
    """All (HIGH, LOW) with HIGH above LOW, rising."""
    return [(high, low) for high in web.names() for low in web.below(high)]


def stray(web, stand):
    """The least who stands neither at home nor at one above, as a bar, or None."""
    for name in web.names():
        if stand[name] != name and stand[name] not in web.above(name):
            return ("stray", name)
    return None


def lower(web, stand):
    """The least (HIGH, LOW) of whom HIGH stands neither where LOW does nor above that, as a bar, or None."""
    for high, low in pairs(web):
        if stand[high] != stand[low] and stand[high] not in web.above(stand[low]):
            return ("below", high, low)
    return None


def wrong_turn(web, at, stand):
    """The least (HIGH, LOW) of whom HIGH is behind LOW in one pile, as a bar, or None."""
    for high, low in pairs(web):
        pile = at[stand[high]]
        if low in pile and pile.index(high) > pile.index(low):
            return ("turn", high, low)
    return None


def bar(web, piles):
    """What bars PILES from coming, None where nothing does."""
    check_web(web)
    check_piles(web, piles)
    stand = stand_of(web, piles)
    return stray(web, stand) or lower(web, stand) or wrong_turn(web, pile_at(web, piles), stand)


def check_comes(web, piles):
    """Refuse what are no PILES that come."""
    barred = bar(web, piles)
    if barred is not None:
        raise Barred(barred)


def stretches(pile, lot):
    """How many longest stretches of persons of LOT a pile has."""
    inside = [name in lot for name in pile]
    return sum([1 for at, here in enumerate(inside) if here and not (at > 0 and inside[at - 1])])


def runs_of(web, at, name):
    """How many runs NAME has, who follows."""
    lot = (name, *web.below(name))
    return sum([stretches(at[high], lot) for high in web.above(name)])


def runs(web, piles):
    """(NAME, how many runs they have) for each who follows, rising."""
    check_comes(web, piles)
    at = pile_at(web, piles)
    return tuple([(name, runs_of(web, at, name)) for name in web.callable()])


def tail(pile, lot):
    """The number from which on all in a pile are of LOT."""
    at = len(pile)
    while at > 0 and pile[at - 1] in lot:
        at -= 1
    return at


def first_calls(web, lots, piles):
    """(NAME, PILES of the calls behind it) for each NAME with which fewest calls that lay PILES begin.

    What the first call lays is laid last: it leaves nobody at NAME, and NAME's last run at the end of the pile of
    whom they follow. Ahead of it that whole run stood at NAME, as else that run were laid by more than one call.
    """
    at = pile_at(web, piles)
    found = []
    for name in web.callable():
        whom = web.whom(name)
        cut = tail(at[whom], lots[name])
        if at[name] == () and cut < len(at[whom]):
            less = {**at, whom: at[whom][:cut], name: at[whom][cut:]}
            found.append((name, tuple([less[one] for one in web.names()])))
    return found


def run_lots(web):
    """For each who follows those of whom their runs are."""
    return {name: (name, *web.below(name)) for name in web.callable()}


def fewest(web, piles):
    """CALLS that lay PILES, each NAME as often as it has runs."""
    check_comes(web, piles)
    lots = run_lots(web)
    home = home_piles(web)
    calls = []
    left = piles
    while left != home:
        name, left = first_calls(web, lots, left)[0]
        calls.append(name)
    return tuple(calls)


def how_many(web, piles):
    """How many CALLS lay PILES with each NAME as often as it has runs."""
    many = sum([count for name, count in runs(web, piles)])
    if many > MOST_COUNTED_CALLS:
        raise TooMany(many)
    lots = run_lots(web)
    # For each PILES that are left behind as many calls: by how many rows of calls.
    ways = {piles: 1}
    for step in range(many):
        more = {}
        for left in ways:
            for name, less in first_calls(web, lots, left):
                more[less] = more.get(less, 0) + ways[left]
        ways = more
    return ways[home_piles(web)]
