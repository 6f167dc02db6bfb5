"""Chances: how likely a wish stands in its turn behind drawn calls."""

from heelrow.bounds import MOST, MOST_DRAWN, is_whole
from heelrow.errors import NoCount
from heelrow.shares import check_asked, lowest
from heelrow.turns import check_most, has_stand, move_table


def drawn_once(table, weight, ways):
    """For each STAND that is wanted ahead of one more drawn call by how much weight, by those wanted behind it."""
    whole = sum(list(weight.values()))
    more = {}
    for stand in ways:
        # Who isn't in a STAND leaves it as it is.
        others = whole - sum([weight[name] for name in table[stand]])
        more[stand] = more.get(stand, 0) + ways[stand] * others
        for name, after in table[stand].items():
            if after is not None:
                more[after] = more.get(after, 0) + ways[stand] * weight[name]
    return more


def chance(web, row, weights, wish, many, *, most=MOST):
    """How likely WISH stands in its turn behind MANY drawn calls, from ROW."""
    check_asked(web, row, weights, wish)
    if not is_whole(many, 0, MOST_DRAWN):
        raise NoCount(many)
    check_most(most)
    table = move_table(web, wish, most)
    weight = {name: own for name, own in zip(web.callable(), weights)}
    ways = {wish: 1}
    bottom = 1
    # Where nobody follows no call is drawn.
    for drawn in range(many if weights else 0):
        ways = drawn_once(table, weight, ways)
        bottom *= sum(weights)
    return lowest(sum([ways[stand] for stand in ways if has_stand(row, stand)]), bottom)
