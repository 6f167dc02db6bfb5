"""Books of rows: whom each follows, by rows alone."""

from heelrow.bounds import MOST, MOST_BOOK, MOST_PERSONS
from heelrow.errors import NoBook, TooMany, Untold
from heelrow.rows import check_web
from heelrow.turns import check_most
from heelrow.webs import is_name


def is_book_row(thing):
    """Whether a thing of any kind is a tuple of one to twelve NAMEs, each once."""
    if not isinstance(thing, tuple) or not 1 <= len(thing) <= MOST_PERSONS:
        return False
    return all([is_name(name) for name in thing]) and len(set(thing)) == len(thing)


def check_book(book):
    """Refuse what is no BOOK."""
    if not isinstance(book, tuple) or not 1 <= len(book) <= MOST_BOOK:
        raise NoBook(None)
    for place, row in enumerate(book):
        if not is_book_row(row) or sorted(row) != sorted(book[0]):
            raise NoBook(place)


def without(names, left_out):
    """These names but the one left out."""
    return [name for name in names if name != left_out]


def step_pairs(row, after):
    """All (X, Y), rising, by which one step of X to right behind Y leads from ROW to AFTER."""
    found = []
    for at in range(1, len(after)):
        one = after[at]
        if without(row, one) == without(after, one):
            found.append((one, after[at - 1]))
    return tuple(sorted(found))


def all_pairs(book):
    """The (X, Y) of each step of a BOOK that is known to be one."""
    return tuple([step_pairs(row, after) for row, after in zip(book, book[1:])])


def steps(book):
    """For each row of BOOK but the first all (X, Y), rising, by which it comes of the one ahead."""
    check_book(book)
    return all_pairs(book)


def is_met(whoms, pairs):
    """Whether somebody follows as one of these (X, Y) has it."""
    return any([whoms.get(one) == whom for one, whom in pairs])


def tells(web, book):
    """Whether the web tells BOOK."""
    check_web(web)
    check_book(book)
    if list(web.names()) != sorted(book[0]):
        return False
    return all([is_met(web.whoms, pairs) for pairs in all_pairs(book)])


def is_free(whoms, one, whom):
    """Whether ONE, who isn't told yet, may follow WHOM, who must not come to ONE by following on."""
    if one in whoms:
        return False
    at = whom
    while at != one and at in whoms:
        at = whoms[at]
    return at != one


def free_pairs(whoms, pairs):
    """Those (X, Y) that may be taken with those taken already."""
    return [(one, whom) for one, whom in pairs if is_free(whoms, one, whom)]


def narrowest(whoms, ways):
    """The number of the step not met yet that leaves the fewest (X, Y) to take, None where all steps are met."""
    left = [number for number, pairs in enumerate(ways) if not is_met(whoms, pairs)]
    return min(left, key=lambda number: len(free_pairs(whoms, ways[number])), default=None)


def grown(whoms, ways):
    """("web", whom each follows) by those taken and more, so that all steps are met; else ("none", TREE)."""
    number = narrowest(whoms, ways)
    if number is None:
        return ("web", whoms)
    free = free_pairs(whoms, ways[number])
    trees = []
    for one, whom in ways[number]:
        word, found = grown({**whoms, one: whom}, ways) if (one, whom) in free else ("none", None)
        if word == "web":
            return (word, found)
        trees.append(found)
    return ("none", (number, tuple(trees)))


def web_for(book):
    """("web", PERSONS) of a web that tells BOOK, or ("none", TREE)."""
    check_book(book)
    word, found = grown({}, all_pairs(book))
    if word == "web":
        return (word, tuple([(name, found.get(name)) for name in sorted(book[0])]))
    return (word, found)


def barred(ways, pair):
    """The (X, Y) of each step without one of them."""
    return [[other for other in pairs if other != pair] for pairs in ways]


def endings_many(names, whoms, taboo, room):
    """How many webs have those taken and none of TABOO; no more than ROOM are counted."""
    left = [name for name in names if name not in whoms]
    if not left:
        return 1
    one = left[0]
    # Who isn't told yet can always lead, so each way down this tree ends in a web.
    many = endings_many(names, {**whoms, one: None}, taboo, room)
    for whom in names:
        if many < room and is_free(whoms, one, whom) and (one, whom) not in taboo:
            many += endings_many(names, {**whoms, one: whom}, taboo, room - many)
    return many


def webs_counted(names, whoms, ways, taboo, room):
    """How many webs have those taken, none of TABOO, and meet all steps; no more than ROOM are counted."""
    number = narrowest(whoms, ways)
    if number is None:
        return endings_many(names, whoms, taboo, room)
    free = free_pairs(whoms, ways[number])
    many = 0
    for one, whom in free:
        if many < room:
            many += webs_counted(names, {**whoms, one: whom}, ways, taboo, room - many)
        # What was taken is barred from here on, so that no web is counted twice.
        ways = barred(ways, (one, whom))
        taboo = [*taboo, (one, whom)]
    return many


def webs_many(book, *, most=MOST):
    """How many webs tell BOOK."""
    check_book(book)
    check_most(most)
    many = webs_counted(sorted(book[0]), {}, all_pairs(book), [], most + 1)
    if many > most:
        raise TooMany(most)
    return many


def sure(book):
    """All (X, Y), rising, by which X follows Y in each web that tells BOOK."""
    check_book(book)
    ways = all_pairs(book)
    word, found = grown({}, ways)
    if word == "none":
        raise Untold("no web tells this book")
    # Each that is sure is in the web that was found; and no web tells the book without it.
    return tuple([pair for pair in sorted(found.items()) if grown({}, barred(ways, pair))[0] == "none"])
