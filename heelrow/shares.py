"""Shares of time: how much of it who stands ahead of whom, where calls are drawn by weights."""

from heelrow.bounds import MOST, MOST_STANDS, MOST_WEIGHT, is_whole
from heelrow.errors import NoWeights
from heelrow.rows import check_row, check_web
from heelrow.turns import check_most, check_wish, from_the_top, has_stand, move_table


def check_weights(web, weights):
    """Refuse what are no WEIGHTS of the web."""
    if not isinstance(weights, tuple) or len(weights) != len(web.callable()):
        raise NoWeights(None)
    for place, weight in enumerate(weights):
        if not is_whole(weight, 1, MOST_WEIGHT):
            raise NoWeights(place)


def lowest(top, bottom):
    """The fraction TOP by BOTTOM in lowest terms."""
    common, left = bottom, top
    while left > 0:
        common, left = left, common % left
    return (top // common, bottom // common)


def share_by_moves(weight, shares, told):
    """The share of a STAND by those of what comes of its moves, which are told."""
    top, bottom = 0, 1
    for name, after in told.items():
        if after is not None:
            own_top, own_bottom = shares[after]
            top = top * own_bottom + weight[name] * own_top * bottom
            bottom *= own_bottom
    return lowest(top, bottom * sum([weight[name] for name in told]))


def shares_of(web, row, weights, wish, most):
    """The share of WISH and of each STAND that comes of it, of what is known to be as told."""
    table = move_table(web, wish, most)
    weight = {name: own for name, own in zip(web.callable(), weights)}
    shares = {}
    for stand in from_the_top(web, table):
        if table[stand]:
            shares[stand] = share_by_moves(weight, shares, table[stand])
        else:
            shares[stand] = (1, 1) if has_stand(row, stand) else (0, 1)
    return shares


def check_asked(web, row, weights, wish):
    """Refuse what isn't as told, by arguments from the left."""
    check_web(web)
    check_row(web, row)
    check_weights(web, weights)
    check_wish(web, wish)


def share(web, row, weights, wish, *, most=MOST):
    """The share of time, in the long run from ROW, in which WISH stands in its turn."""
    check_asked(web, row, weights, wish)
    check_most(most)
    return shares_of(web, row, weights, wish, most)[wish]


def mean_ahead(web, row, weights, name):
    """How many stand ahead of NAME in the long run from ROW, on the mean."""
    check_web(web)
    check_row(web, row)
    check_weights(web, weights)
    web.check_name(name)
    mean = (0, 1)
    for other in web.names():
        if other != name:
            top, bottom = shares_of(web, row, weights, (other, name), MOST_STANDS)[(other, name)]
            mean = lowest(mean[0] * bottom + top * mean[1], mean[1] * bottom)
    return mean
