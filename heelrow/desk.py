"""The desk: a line that is asked, and changed, by rows of words."""

from heelrow.checker import holds
from heelrow.errors import NoSay
from heelrow.lines import Line
from heelrow.papers import paper_way
from heelrow.rests import rests_many
from heelrow.shares import mean_ahead, share
from heelrow.turns import turn_of, way
from heelrow.webs import is_name


def ones(web):
    """WEIGHTS of 1 for each who follows."""
    return (1,) * len(web.callable())


def say_deed(line, words):
    """Do the deed of these words; who joins or turns without WHOM leads."""
    if words[0] in ("join", "turn") and len(words) == 2:
        line.do((*words, None))
    else:
        line.do(words)
    return "ok"


def say_back(line, words):
    """Take the last deed back."""
    line.back()
    return "ok"


def say_row(line, words):
    """The names as they stand."""
    return str(line)


def say_web(line, words):
    """The web's text in one row."""
    return str(line.web()).replace("\n", "; ")


def say_piles(line, words):
    """Who stands at each person."""
    rows = [" ".join([f"{name}:", *pile]) for name, pile in zip(line.web().names(), line.piles())]
    return "; ".join(rows)


def say_log(line, words):
    """The words of each deed that isn't taken back."""
    rows = [" ".join(["-" if part is None else part for part in deed]) for deed in line.log()]
    return "; ".join(rows) if rows else "none"


def say_way(line, words):
    """The calls by which these come to stand in this turn."""
    calls = way(line.web(), line.now(), words[1:])
    if calls is None:
        return "never"
    return " ".join(calls) if calls else "here"


def say_turn_of(line, words):
    """Whether the first stands ahead of the other for ever."""
    return turn_of(line.web(), line.now(), words[1], words[2])


def say_rests(line, words):
    """How many rests there are."""
    return str(rests_many(line.web()))


def say_share(line, words):
    """The share of time in which these stand in this turn."""
    top, bottom = share(line.web(), line.now(), ones(line.web()), words[1:])
    return f"{top}/{bottom}"


def say_mean(line, words):
    """How many stand ahead of one, on the mean."""
    top, bottom = mean_ahead(line.web(), line.now(), ones(line.web()), words[1])
    return f"{top}/{bottom}"


def say_paper(line, words):
    """Whether the checker takes the house's paper of the way."""
    claim, paper = paper_way(line.web(), line.now(), words[1:])
    return "holds" if holds(claim, paper) else "no"


# For each word how many NAMEs stand behind it, from and to, and who answers; None where there may be any number more.
NAMES_MANY = {
    "call": (1, 1), "join": (1, 2), "part": (1, 1), "turn": (1, 2), "back": (0, 0), "row": (0, 0), "web": (0, 0),
    "piles": (0, 0), "log": (0, 0), "way": (1, None), "turn_of": (2, 2), "rests": (0, 0), "share": (1, None),
    "mean": (1, 1), "paper": (1, None),
}
ANSWERS = {
    "call": say_deed, "join": say_deed, "part": say_deed, "turn": say_deed, "back": say_back, "row": say_row,
    "web": say_web, "piles": say_piles, "log": say_log, "way": say_way, "turn_of": say_turn_of, "rests": say_rests,
    "share": say_share, "mean": say_mean, "paper": say_paper,
}


def is_said(words):
    """Whether words are a row of words that the desk knows."""
    if words[0] not in NAMES_MANY:
        return False
    low, high = NAMES_MANY[words[0]]
    names = words[1:]
    if len(names) < low or (high is not None and len(names) > high):
        return False
    return all([is_name(name) for name in names])


class Desk:
    """A line that is asked, and changed, by rows of words."""

    def __init__(self, web, row):
        self.line = Line(web, row)

    def say(self, row):
        """The answer to a row of words."""
        if not isinstance(row, str):
            raise NoSay(row)
        # What has two blanks together, or one at an end, has an empty word, which is no NAME.
        words = tuple(row.split(" "))
        if not is_said(words):
            raise NoSay(row)
        answer = ANSWERS[words[0]]
        return answer(self.line, words)
