"""The house's papers: to each question the claim that is true, with a paper that the checker takes."""

from heelrow.books import web_for
from heelrow.bounds import MOST
from heelrow.piles import parting
from heelrow.runs import bar, fewest
from heelrow.shares import check_asked, shares_of
from heelrow.torn import check_all, one_reading, wanted_stands
from heelrow.turns import check_most, move_table, stands, way


def paper_alike(web, calls, other):
    """Whether CALLS and OTHER are alike or parted."""
    row = parting(web, calls, other)
    if row is None:
        return (("alike", web.persons, calls, other), None)
    return (("parted", web.persons, calls, other), row)


def paper_piles(web, piles):
    """By how few calls PILES come, or what bars them."""
    found = bar(web, piles)
    if found is not None:
        return (("barred", web.persons, piles), found)
    calls = fewest(web, piles)
    return (("fewest", web.persons, piles, len(calls)), calls)


def levels_of(table, wish, many):
    """For each number of moves below MANY the STANDs that come of WISH by just so many."""
    levels = []
    level = (wish,)
    for step in range(many):
        levels.append(level)
        # One that came by fewer moves is told again: the next level must have all moves of this one.
        level = tuple(sorted({after for stand in level for after in table[stand].values() if after is not None}))
    return tuple(levels)


def paper_way(web, row, wish, *, most=MOST):
    """By how few calls WISH comes to stand in its turn, or that it never does."""
    calls = way(web, row, wish, most=most)
    if calls is None:
        return (("never", web.persons, row, wish), stands(web, wish, most=most))
    levels = levels_of(move_table(web, wish, most), wish, len(calls))
    return (("nearest", web.persons, row, wish, len(calls)), (calls, levels))


def paper_share(web, row, weights, wish, *, most=MOST):
    """The share of time in which WISH stands in its turn."""
    check_asked(web, row, weights, wish)
    check_most(most)
    shares = shares_of(web, row, weights, wish, most)
    return (("share", web.persons, row, weights, wish, shares[wish]), tuple(sorted(shares.items())))


def paper_torn(web, row, wish, torn, *, most=MOST):
    """A reading of TORN behind which WISH stands in its turn, or that there is none."""
    check_all(web, row, wish, torn, most)
    table = move_table(web, wish, most)
    wanted = wanted_stands(web, table, wish, torn)
    calls = one_reading(web, row, torn, table, wanted)
    if calls is not None:
        return (("reads", web.persons, row, wish, torn), calls)
    return (("torn", web.persons, row, wish, torn), tuple([tuple(sorted(level)) for level in wanted]))


def paper_book(book):
    """A web that tells BOOK, or that none does."""
    word, found = web_for(book)
    if word == "web":
        return (("tells", found, book), None)
    return (("untold", book), found)
