"""The checker: it takes a claim with its paper, or not, by webs, rows and calls alone."""

from heelrow.bounds import MOST_CALLS, is_whole
from heelrow.checkbooks import is_book, is_tree, steps_told
from heelrow.checkpiles import all_runs, are_calls, are_piles, bars, lay
from heelrow.checkstands import (
    are_shares, are_stands, are_weights, has, has_none, is_by_rule, is_fraction, is_torn, is_wish, leads_into,
)
from heelrow.errors import NoWeb
from heelrow.rows import done, is_row
from heelrow.webs import Web


def web_or_none(persons):
    """The web of these PERSONS, None of what are none."""
    try:
        return Web(persons)
    except NoWeb:
        return None


def piles_hold(web, parts, paper):
    """CALLS lay PILES."""
    calls, piles = parts
    return paper is None and are_calls(web, calls) and are_piles(web, piles) and lay(web, calls) == piles


def alike_holds(web, parts, paper):
    """CALLS and OTHER lead from every ROW to the same."""
    calls, other = parts
    return paper is None and are_calls(web, calls) and are_calls(web, other) and lay(web, calls) == lay(web, other)


def parted_holds(web, parts, paper):
    """The paper is a ROW from which CALLS and OTHER lead to unlike ones."""
    calls, other = parts
    if not are_calls(web, calls) or not are_calls(web, other) or not is_row(web, paper):
        return False
    return done(web, paper, calls) != done(web, paper, other)


def fewest_holds(web, parts, paper):
    """The paper is MANY CALLS that lay PILES, as many as all runs."""
    piles, many = parts
    if not are_piles(web, piles) or not is_whole(many, 0, MOST_CALLS) or not are_calls(web, paper):
        return False
    return lay(web, paper) == piles and len(paper) == many == all_runs(web, piles)


def barred_holds(web, parts, paper):
    """The paper is something that bars PILES."""
    return are_piles(web, parts[0]) and bars(web, parts[0], paper)


def lead_to(web, row, wish, calls):
    """Whether a thing of any kind is CALLS behind which, from ROW, WISH stands in its turn."""
    return are_calls(web, calls) and has(done(web, row, calls), wish)


def comes_holds(web, parts, paper):
    """The paper is CALLS behind which, from ROW, WISH stands in its turn."""
    row, wish = parts
    return is_row(web, row) and is_wish(web, wish) and lead_to(web, row, wish, paper)


def never_holds(web, parts, paper):
    """The paper is a closed lot of STANDs with WISH among them, of which ROW has none."""
    row, wish = parts
    if not is_row(web, row) or not is_wish(web, wish) or not are_stands(web, wish, paper):
        return False
    return wish in paper and leads_into(web, None, paper, paper) and has_none(row, paper)


def nearest_holds(web, parts, paper):
    """The paper is MANY CALLS, and as many levels of STANDs which bar that fewer do."""
    row, wish, many = parts
    if not is_row(web, row) or not is_wish(web, wish) or not is_whole(many, 0, MOST_CALLS):
        return False
    if not isinstance(paper, tuple) or len(paper) != 2:
        return False
    calls, levels = paper
    if not lead_to(web, row, wish, calls) or len(calls) != many:
        return False
    if not isinstance(levels, tuple) or len(levels) != many or not all([are_stands(web, wish, one) for one in levels]):
        return False
    if many > 0 and wish not in levels[0]:
        return False
    if not all([leads_into(web, None, level, after) for level, after in zip(levels, levels[1:])]):
        return False
    return all([has_none(row, level) for level in levels])


def share_holds(web, parts, paper):
    """The paper is the share of WISH and of all that comes of it, each by the rule."""
    row, weights, wish, share = parts
    if not is_row(web, row) or not are_weights(web, weights) or not is_wish(web, wish) or not is_fraction(share):
        return False
    if not are_shares(web, wish, paper):
        return False
    shares = {stand: fraction for stand, fraction in paper}
    if shares.get(wish) != share or not leads_into(web, None, shares, shares):
        return False
    weight = {name: own for name, own in zip(web.callable(), weights)}
    return all([is_by_rule(web, row, weight, shares, stand) for stand in shares])


def reads_holds(web, parts, paper):
    """The paper is a reading of TORN behind which, from ROW, WISH stands in its turn."""
    row, wish, torn = parts
    if not is_row(web, row) or not is_wish(web, wish) or not is_torn(web, torn):
        return False
    if not lead_to(web, row, wish, paper) or len(paper) != len(torn):
        return False
    return all([name is None or name == one for name, one in zip(torn, paper)])


def torn_holds(web, parts, paper):
    """The paper is the STANDs that may be wanted behind each place of TORN, and ahead of all; ROW has none of these."""
    row, wish, torn = parts
    if not is_row(web, row) or not is_wish(web, wish) or not is_torn(web, torn):
        return False
    if not isinstance(paper, tuple) or len(paper) != len(torn) + 1:
        return False
    if not all([are_stands(web, wish, level) for level in paper]) or wish not in paper[0]:
        return False
    for name, level, after in zip(torn[::-1], paper, paper[1:]):
        if not leads_into(web, web.callable() if name is None else (name,), level, after):
            return False
    return has_none(row, paper[-1])


def tells_holds(web, parts, paper):
    """The web tells BOOK."""
    book = parts[0]
    if paper is not None or not is_book(book) or sorted(book[0]) != list(web.names()):
        return False
    return all([any([web.whom(one) == whom for one, whom in pairs]) for pairs in steps_told(book)])


# For each word but "untold", which has no web: how many parts stand behind the web, and by what rule it holds.
PARTS = {
    "piles": 2, "alike": 2, "parted": 2, "fewest": 2, "barred": 1, "comes": 2, "never": 2, "nearest": 3, "share": 4,
    "reads": 3, "torn": 3, "tells": 1,
}
RULES = {
    "piles": piles_hold, "alike": alike_holds, "parted": parted_holds, "fewest": fewest_holds, "barred": barred_holds,
    "comes": comes_holds, "never": never_holds, "nearest": nearest_holds, "share": share_holds, "reads": reads_holds,
    "torn": torn_holds, "tells": tells_holds,
}


def untold_holds(claim, paper):
    """The paper is a TREE by which no web tells BOOK."""
    return len(claim) == 2 and is_book(claim[1]) and is_tree(steps_told(claim[1]), [], [], paper)


def holds(claim, paper):
    """Whether a claim is taken with its paper, both of any kind."""
    if not isinstance(claim, tuple) or len(claim) < 2 or not isinstance(claim[0], str):
        return False
    word = claim[0]
    if word == "untold":
        return untold_holds(claim, paper)
    if word not in RULES or len(claim) != PARTS[word] + 2:
        return False
    web = web_or_none(claim[1])
    if web is None:
        return False
    rule = RULES[word]
    return rule(web, claim[2:], paper)
