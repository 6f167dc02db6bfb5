"""The checker's own look at books and trees."""

from heelrow.bounds import MOST_BOOK, MOST_PERSONS, is_whole
from heelrow.webs import is_name


def are_unlike_names(thing):
    """Whether a thing of any kind is a tuple of one to twelve NAMEs, each once."""
    if not isinstance(thing, tuple) or not 1 <= len(thing) <= MOST_PERSONS:
        return False
    return all([is_name(name) and name not in thing[:at] for at, name in enumerate(thing)])


def is_book(thing):
    """Whether a thing of any kind is a BOOK."""
    if not isinstance(thing, tuple) or not 1 <= len(thing) <= MOST_BOOK:
        return False
    if not all([are_unlike_names(row) for row in thing]):
        return False
    return all([sorted(row) == sorted(thing[0]) for row in thing])


def put_behind(row, one, whom):
    """The row in which ONE stands right behind WHOM, all others in their turn."""
    told = []
    for name in row:
        if name != one:
            told.append(name)
        if name == whom:
            told.append(one)
    return tuple(told)


def steps_told(book):
    """For each row but the first the list of all (X, Y), rising, by which it comes of the one ahead."""
    names = sorted(book[0])
    pairs = [(one, whom) for one in names for whom in names if one != whom]
    return [[pair for pair in pairs if put_behind(row, *pair) == after] for row, after in zip(book, book[1:])]


def clash(taken):
    """Whether by these (X, Y) somebody follows two, or comes to themselves by following on."""
    whoms = {}
    for one, whom in taken:
        if whoms.get(one, whom) != whom:
            return True
        whoms[one] = whom
    for one in whoms:
        at = whoms[one]
        # Who comes to no end in as many steps as follow comes round to somebody for ever.
        for step in range(len(whoms)):
            at = whoms.get(at)
        if at is not None:
            return True
    return False


def is_tree(ways, taken, used, thing):
    """Whether a thing of any kind is a TREE behind those taken, by the steps of the numbers used.

    No step is used twice on a way, so this never goes deeper than there are steps.
    """
    if thing is None:
        return clash(taken)
    if not isinstance(thing, tuple) or len(thing) != 2:
        return False
    number, trees = thing
    if not is_whole(number, 0, len(ways) - 1) or number in used:
        return False
    if not isinstance(trees, tuple) or len(trees) != len(ways[number]):
        return False
    for pair, tree in zip(ways[number], trees):
        if not is_tree(ways, [*taken, pair], [*used, number], tree):
            return False
    return True
