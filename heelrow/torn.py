"""Torn rows of calls: what they can have said, where a wish stands in its turn behind them."""

from heelrow.bounds import MOST, MOST_TORN
from heelrow.errors import NoTorn
from heelrow.rows import check_row, check_web, follows
from heelrow.turns import check_most, check_wish, has_stand, move_table


def check_torn(web, torn):
    """Refuse what is no TORN row of calls of the web."""
    if not isinstance(torn, tuple) or len(torn) > MOST_TORN:
        raise NoTorn(None)
    for place, name in enumerate(torn):
        if name is not None and not follows(web, name):
            raise NoTorn(place)


def check_all(web, row, wish, torn, most):
    """Refuse what isn't as told, by arguments from the left."""
    check_web(web)
    check_row(web, row)
    check_wish(web, wish)
    check_torn(web, torn)
    check_most(most)


def names_for(web, thing):
    """The NAMEs, rising, that may stand in a place of a TORN row that has this."""
    return web.callable() if thing is None else (thing,)


def read(table, stand, names):
    """(NAME, STAND that it comes to) for each of these who can be called last, STAND wanted behind the call."""
    found = [(name, table[stand].get(name, stand)) for name in names]
    return [(name, after) for name, after in found if after is not None]


def counted(table, ways, names):
    """For each STAND that is wanted ahead of one more call, in how many ways, by those behind the call."""
    more = {}
    for stand in ways:
        for name, after in read(table, stand, names):
            more[after] = more.get(after, 0) + ways[stand]
    return more


def wanted_stands(web, table, wish, torn):
    """For each place of TORN, from the last on, and one more, the STANDs that are wanted behind it, in how many ways.

    Behind the last place this is WISH; the one more is what is wanted of the row ahead of all calls.
    """
    wanted = [{wish: 1}]
    for thing in torn[::-1]:
        wanted.append(counted(table, wanted[-1], names_for(web, thing)))
    return wanted


def readings(web, row, wish, torn, *, most=MOST):
    """How many readings of TORN there are behind which, from ROW, WISH stands in its turn."""
    check_all(web, row, wish, torn, most)
    ways = wanted_stands(web, move_table(web, wish, most), wish, torn)[-1]
    return sum([ways[stand] for stand in ways if has_stand(row, stand)])


def places(web, row, wish, torn, *, most=MOST):
    """For each place of TORN the NAMEs that stand there in a reading behind which WISH stands in its turn."""
    check_all(web, row, wish, torn, most)
    table = move_table(web, wish, most)
    wanted = wanted_stands(web, table, wish, torn)
    # From ROW on those STANDs are kept that the calls read so far lead to from ROW.
    level = wanted.pop()
    kept = {stand: True for stand in level if has_stand(row, stand)}
    told = []
    for thing in torn:
        names = names_for(web, thing)
        level = wanted.pop()
        steps = [(stand, name) for stand in level for name, after in read(table, stand, names) if after in kept]
        told.append(tuple(sorted({name for stand, name in steps})))
        kept = {stand: True for stand, name in steps}
    return tuple(told)


def one_reading(web, row, torn, table, wanted):
    """A reading by these wanted STANDs, None where there is none."""
    near = [stand for stand in wanted[-1] if has_stand(row, stand)]
    if not near:
        return None
    ahead = near[0]
    calls = []
    for thing, level in zip(torn, wanted[-2::-1]):
        names = names_for(web, thing)
        steps = [(name, stand) for stand in level for name, after in read(table, stand, names) if after == ahead]
        name, ahead = steps[0]
        calls.append(name)
    return tuple(calls)
