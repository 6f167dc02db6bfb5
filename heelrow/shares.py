"""Shares of time: how much of it who stands ahead of whom, where calls are drawn by weights."""

from heelrow.bounds import MOST, MOST_STANDS, MOST_WEIGHT, is_whole
from heelrow.errors import NoWeights
from heelrow.rows import check_row, check_web
from heelrow.turns import check_most, check_wish, has_stand, move_table


def check_weights(web, weights):
    """Refuse what are no WEIGHTS of the web."""
    if not isinstance(weights, tuple) or len(weights) != len(web.callable()):
        raise NoWeights(None)
    for place, weight in enumerate(weights):
        if not is_whole(weight, 1, MOST_WEIGHT):
            raise NoWeights(place)


def lowest(top, bottom):
    """The fraction TOP by BOTTOM in lowest terms."""
    common, left = bottom, top
    while left > 0:
        common, left = left, common % left
    return (top // common, bottom // common)


def height(web, stand):
    """How many those in a STAND have above them, all together; each move makes it less."""
    return sum([len(web.above(name)) for name in stand])


def scale_of(weight, table):
    """A number by which each share in the table becomes a whole one.

    Each share is divided by the weights of those who can be called in the STANDs on the way to who lead. Each move
    brings the unlike ones among these nearer to who lead, so no way meets the same ones twice.
    """
    scale = 1
    for names in sorted({tuple(sorted(table[stand])) for stand in table if table[stand]}):
        scale *= sum([weight[name] for name in names])
    return scale


def worth_of(weight, worth, told):
    """The share of a STAND, so scaled, by those of what comes of its moves."""
    parts = [weight[name] * worth[after] for name, after in told.items() if after is not None]
    return sum(parts) // sum([weight[name] for name in told])


def share_of(web, row, weights, wish, most):
    """The share of WISH, of what is known to be as told."""
    table = move_table(web, wish, most)
    weight = {name: own for name, own in zip(web.callable(), weights)}
    scale = scale_of(weight, table)
    worth = {}
    for stand in sorted(table, key=lambda one: height(web, one)):
        if table[stand]:
            worth[stand] = worth_of(weight, worth, table[stand])
        else:
            worth[stand] = scale if has_stand(row, stand) else 0
    return lowest(worth[wish], scale)


def share(web, row, weights, wish, *, most=MOST):
    """The share of time, in the long run from ROW, in which WISH stands in its turn."""
    check_web(web)
    check_row(web, row)
    check_weights(web, weights)
    check_wish(web, wish)
    check_most(most)
    return share_of(web, row, weights, wish, most)


def mean_ahead(web, row, weights, name):
    """How many stand ahead of NAME in the long run from ROW, on the mean."""
    check_web(web)
    check_row(web, row)
    check_weights(web, weights)
    web.check_name(name)
    mean = (0, 1)
    for other in web.names():
        if other != name:
            top, bottom = share_of(web, row, weights, (other, name), MOST_STANDS)
            mean = lowest(mean[0] * bottom + top * mean[1], mean[1] * bottom)
    return mean
