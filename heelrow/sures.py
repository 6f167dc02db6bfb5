"""Told surely: what all calls have that lead from one row to another."""

from heelrow.bounds import MOST
from heelrow.errors import NoWay
from heelrow.rows import check_row, check_web, stepped
from heelrow.turns import check_most, from_the_top, has_stand, move_table


def leading(web, row, table, left_out):
    """Those STANDs of a table from which moves, but of the one left out, come to one that ROW has."""
    found = {}
    for stand in from_the_top(web, table):
        nexts = [after for name, after in table[stand].items() if name != left_out]
        if has_stand(row, stand) or any([after in found for after in nexts]):
            found[stand] = True
    return found


def table_between(web, row, other, most):
    """The moves of each STAND that comes of OTHER as WISH; refused where no calls lead there from ROW."""
    check_web(web)
    check_row(web, row)
    check_row(web, other)
    check_most(most)
    table = move_table(web, other, most)
    if not any([has_stand(row, stand) for stand in table]):
        raise NoWay("no calls lead from the one row to the other")
    return table


def musts(web, row, other, *, most=MOST):
    """The NAMEs, rising, that all CALLS have that lead from ROW to OTHER."""
    table = table_between(web, row, other, most)
    return tuple([name for name in web.callable() if other not in leading(web, row, table, name)])


def firsts(web, row, other, *, most=MOST):
    """The NAMEs, rising, with which some CALLS begin that lead from ROW to OTHER."""
    table = table_between(web, row, other, most)
    found = []
    for name in web.callable():
        after = stepped(web, row, name)
        if any([has_stand(after, stand) for stand in table]):
            found.append(name)
    return tuple(found)


def lasts(web, row, other, *, most=MOST):
    """The NAMEs, rising, with which some CALLS end that lead from ROW to OTHER."""
    table = table_between(web, row, other, most)
    found = leading(web, row, table, None)
    return tuple(sorted([name for name, after in table[other].items() if after in found]))
