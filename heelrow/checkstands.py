"""The checker's own look at wishes, their STANDs, and shares."""

from heelrow.bounds import MOST_TORN, MOST_WEIGHT, is_whole
from heelrow.rows import first_wrong, follows


def is_wish(web, thing):
    """Whether a thing of any kind is a WISH of the web."""
    return isinstance(thing, tuple) and len(thing) > 0 and first_wrong(web, thing) is None


def is_torn(web, thing):
    """Whether a thing of any kind is a TORN row of calls of the web."""
    if not isinstance(thing, tuple) or len(thing) > MOST_TORN:
        return False
    return all([name is None or follows(web, name) for name in thing])


def are_weights(web, thing):
    """Whether a thing of any kind is WEIGHTS of the web."""
    if not isinstance(thing, tuple) or len(thing) != len(web.callable()):
        return False
    return all([is_whole(weight, 1, MOST_WEIGHT) for weight in thing])


def has(row, stand):
    """Whether ROW has a STAND; WISH is one too, which ROW has where it stands in its turn."""
    firsts = [name for at, name in enumerate(stand) if name not in stand[:at]]
    return [name for name in row if name in stand] == firsts


def are_stands(web, wish, thing):
    """Whether a thing of any kind is a rising tuple of STANDs, of as many NAMEs as WISH has."""
    if not isinstance(thing, tuple):
        return False
    for stand in thing:
        if not isinstance(stand, tuple) or len(stand) != len(wish) or not all([web.has(name) for name in stand]):
            return False
    return all([one < other for one, other in zip(thing, thing[1:])])


def can_move(stand, name, whom):
    """Whether NAME, who is in a STAND and follows WHOM, can be moved."""
    places = [at for at, one in enumerate(stand) if one == whom]
    return not places or places[-1] == stand.index(name) - 1


def come_of(web, stand, name):
    """The list of what a STAND comes to by a call of NAME: itself, where NAME isn't in it; none, where it can't be."""
    whom = web.whom(name)
    if name not in stand:
        return [stand]
    if not can_move(stand, name, whom):
        return []
    return [tuple([whom if one == name else one for one in stand])]


def movable(web, stand):
    """Those in a STAND who follow, each once."""
    return [name for name in web.callable() if name in stand]


def leads_into(web, names, level, into):
    """Whether all that the STANDs of a level come to by calls of these names are in another one.

    Where no names are told, these are those who are in the STAND: then all that come are its moves.
    """
    inside = {stand: True for stand in into}
    for stand in level:
        here = movable(web, stand) if names is None else names
        for name in here:
            if not all([after in inside for after in come_of(web, stand, name)]):
                return False
    return True


def has_none(row, level):
    """Whether ROW has no STAND of a level."""
    return not any([has(row, stand) for stand in level])


def is_fraction(thing):
    """Whether a thing of any kind is a fraction from 0 on, in lowest terms."""
    if not isinstance(thing, tuple) or len(thing) != 2:
        return False
    if not all([isinstance(one, int) and not isinstance(one, bool) for one in thing]):
        return False
    top, bottom = thing
    if top < 0 or bottom < 1:
        return False
    while top > 0:
        top, bottom = bottom % top, top
    return bottom == 1


def are_shares(web, wish, thing):
    """Whether a thing of any kind is a rising tuple of (STAND, FRACTION), no STAND twice."""
    if not isinstance(thing, tuple) or not all([isinstance(one, tuple) and len(one) == 2 for one in thing]):
        return False
    # No STAND stands twice, so the pairs rise just where the STANDs do.
    return are_stands(web, wish, tuple([one[0] for one in thing])) and all([is_fraction(one[1]) for one in thing])


def is_by_rule(web, row, weight, shares, stand):
    """Whether the share of a STAND is that by its moves, whose shares are told too, or by ROW, where all lead."""
    names = movable(web, stand)
    if not names:
        return shares[stand] == ((1, 1) if has(row, stand) else (0, 1))
    top, bottom = 0, 1
    for name in names:
        for after in come_of(web, stand, name):
            part, whole = shares[after]
            top, bottom = top * whole + weight[name] * part * bottom, bottom * whole
    told_top, told_bottom = shares[stand]
    return told_top * bottom * sum([weight[name] for name in names]) == top * told_bottom
