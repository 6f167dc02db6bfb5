"""Rests: the rows that come again for ever, counted and not listed."""

from heelrow.bounds import is_whole
from heelrow.errors import NoNumber, NoRest
from heelrow.rows import check_row, check_web, is_row


def sizes(web):
    """For each person how many they are with all below."""
    return {name: 1 + len(web.below(name)) for name in web.names()}


def lots(web, row):
    """For each who leads, as they stand in ROW, the rising list of them with all below."""
    return [sorted([name, *web.below(name)]) for name in row if web.whom(name) is None]


def turns_many(size, lot):
    """In how many turns a lot can stand, each behind whom they follow; with each one in it all below are in it."""
    many = 1
    for at in range(len(lot)):
        many *= at + 1
    for name in lot:
        many //= size[name]
    return many


def is_turn(web, lot, names):
    """Whether these names are the lot in such a turn that each stands behind whom they follow."""
    if sorted(names) != lot:
        return False
    return all([web.whom(name) is None or web.whom(name) in names[:at] for at, name in enumerate(names)])


def is_rest(web, row, thing):
    """Whether a thing of any kind is a rest of ROW."""
    check_web(web)
    check_row(web, row)
    if not is_row(web, thing):
        return False
    start = 0
    for lot in lots(web, row):
        if not is_turn(web, lot, thing[start:start + len(lot)]):
            return False
        start += len(lot)
    return True


def rests_many(web):
    """How many rests each ROW has."""
    check_web(web)
    size = sizes(web)
    many = 1
    for lot in lots(web, web.names()):
        many *= turns_many(size, lot)
    return many


def choices(web, size, lot):
    """(NAME, the lot without them, how many turns begin with them) for each who can stand first, rising."""
    found = []
    for name in lot:
        if web.whom(name) not in lot:
            left = [other for other in lot if other != name]
            found.append((name, left, turns_many(size, left)))
    return found


def turn_at(web, size, lot, number):
    """The lot in the turn of this number, as they rise."""
    told = []
    while lot:
        for name, left, many in choices(web, size, lot):
            if number < many:
                break
            number -= many
        told.append(name)
        lot = left
    return told


def turn_number(web, size, lot, names):
    """The number of the turn in which the names of the lot stand."""
    number = 0
    for first in names:
        for name, left, many in choices(web, size, lot):
            if name < first:
                number += many
        lot = [other for other in lot if other != first]
    return number


def rest_at(web, row, number):
    """The rest of ROW of this number, as they rise."""
    check_web(web)
    check_row(web, row)
    if not is_whole(number, 0, rests_many(web) - 1):
        raise NoNumber(number)
    size = sizes(web)
    told = []
    left = number
    # All lots of one row stand in the same places in each rest, so the last lot's turns change first.
    for lot in lots(web, row)[::-1]:
        left, own = divmod(left, turns_many(size, lot))
        told = turn_at(web, size, lot, own) + told
    return tuple(told)


def number_of(web, row, rest):
    """The number of a rest of ROW, as they rise."""
    if not is_rest(web, row, rest):
        raise NoRest(rest)
    size = sizes(web)
    number = 0
    start = 0
    for lot in lots(web, row):
        own = turn_number(web, size, lot, rest[start:start + len(lot)])
        number = number * turns_many(size, lot) + own
        start += len(lot)
    return number
