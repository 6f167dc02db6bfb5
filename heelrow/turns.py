"""A told turn: how told persons come to stand in it, and which turns never change."""

from heelrow.bounds import MOST, MOST_STANDS, is_whole
from heelrow.errors import NoCount, NoWish, Same, TooMany
from heelrow.rows import check_row, check_web, first_wrong


def check_wish(web, wish):
    """Refuse what is no WISH of the web."""
    if not isinstance(wish, tuple) or len(wish) == 0:
        raise NoWish(None)
    place = first_wrong(web, wish)
    if place is not None:
        raise NoWish(place)


def check_most(most):
    """Refuse what is no number of STANDs that may be gone through."""
    if not is_whole(most, 1, MOST_STANDS):
        raise NoCount(most)


def unlike(stand):
    """The unlike NAMEs of a STAND, in the turn in which they first come."""
    return [name for at, name in enumerate(stand) if name not in stand[:at]]


def has_stand(row, stand):
    """Whether ROW has a STAND."""
    found = [row.index(name) for name in unlike(stand)]
    return found == sorted(found)


def moved(web, stand, name):
    """The STAND that comes of a move of NAME, who follows and is in it, None where it can't be done."""
    whom = web.whoms[name]
    if whom in stand:
        last = len(stand) - 1 - stand[::-1].index(whom)
        if last + 1 != stand.index(name):
            return None
    return tuple([whom if one == name else one for one in stand])


def moves(web, stand):
    """For each who follows and is in a STAND what comes of their move, None where it can't be done."""
    return {name: moved(web, stand, name) for name in unlike(stand) if web.whoms[name] is not None}


def fresh_stands(table, level):
    """The STANDs that come of a level by one move and aren't in the table."""
    found = {}
    for stand in level:
        for after in table[stand].values():
            if after is not None and after not in table:
                found[after] = True
    return found


def move_table(web, wish, most):
    """The moves of each STAND that comes of WISH, those of the fewest moves first; refused where there are more."""
    table = {}
    level = {wish: True}
    while level:
        if len(table) + len(level) > most:
            raise TooMany(most)
        for stand in level:
            table[stand] = moves(web, stand)
        level = fresh_stands(table, level)
    return table


def from_the_top(web, table):
    """The STANDs of a table, each behind all that come of it by a move."""
    # A move brings some of those in a STAND nearer to who leads, and nobody further off.
    return sorted(table, key=lambda stand: sum([len(web.above(name)) for name in stand]))


def stands(web, wish, *, most=MOST):
    """All STANDs that come of WISH by moves, rising."""
    check_web(web)
    check_wish(web, wish)
    check_most(most)
    return tuple(sorted(move_table(web, wish, most)))


def ways_back(table):
    """For each STAND but the first (NAME, STAND) of the move by which it came first."""
    back = {}
    for stand in table:
        for name, after in table[stand].items():
            if after is not None and after not in back:
                back[after] = (name, stand)
    return back


def way(web, row, wish, *, most=MOST):
    """CALLS, as few as any, behind which, from ROW, WISH stands in its turn; None where there are none."""
    check_web(web)
    check_row(web, row)
    check_wish(web, wish)
    check_most(most)
    table = move_table(web, wish, most)
    near = [stand for stand in table if has_stand(row, stand)]
    if not near:
        return None
    back = ways_back(table)
    stand = near[0]
    calls = []
    # Calls are read from behind, so the last move is the first call.
    while stand != wish:
        name, stand = back[stand]
        calls.append(name)
    return tuple(calls)


def comes(web, row, wish):
    """Whether WISH stands in its turn in a row that comes from ROW; WISH is of so few that all STANDs have room."""
    return any([has_stand(row, stand) for stand in move_table(web, wish, MOST_STANDS)])


def turn_of(web, row, one, other):
    """Whether ONE stands ahead of OTHER in each row that comes from ROW, in none, or either."""
    check_web(web)
    check_row(web, row)
    web.check_name(one)
    web.check_name(other)
    if one == other:
        raise Same(other)
    if not comes(web, row, (other, one)):
        return "ahead"
    if not comes(web, row, (one, other)):
        return "behind"
    return "either"


def firm(web, row):
    """All (ONE, OTHER), rising, of whom ONE stands ahead of OTHER in each row that comes from ROW."""
    check_web(web)
    check_row(web, row)
    names = web.names()
    return tuple([(a, b) for a in names for b in names if a != b and not comes(web, row, (b, a))])
