import inspect
import random
import unittest

from heelrow import lines
from heelrow.errors import HeelError, RoomError, WhoError
from heelrow.lines import MOST_DEEDS, Line
from heelrow.piles import piles
from heelrow.rows import called
from heelrow.webs import Web
from tests.helper import (
    ALONE, CHAIN, LEADERS, SEVERAL, STAR, TWELVE, check_refusals, drawn_calls, drawn_row, drawn_webs, frozen, home_of,
    plain_called, plain_done, refusal, wrong_deeds, wrong_kinds, wrong_rows, wrong_webs,
)

LISTED = ("__init__", "__eq__", "__len__", "__str__", "__repr__", "do", "do_all", "back", "web", "now", "log", "piles")
DCBA = ("d", "c", "b", "a")


def plain_line(persons, row, log):
    """The persons and the row behind all deeds, done anew one by one."""
    whoms = dict(persons)
    row = list(row)
    for deed in log:
        word, name = deed[:2]
        if word == "call":
            row.remove(name)
            row.insert(row.index(whoms[name]) + 1, name)
        if word == "join":
            row.append(name)
        if word == "part":
            row.remove(name)
            del whoms[name]
        if word in ("join", "turn"):
            whoms[name] = deed[2]
    return tuple(sorted(whoms.items())), tuple(row)


def last_calls(log):
    """The calls behind the last deed that is none."""
    words = [deed[0] == "call" for deed in log]
    start = max([k + 1 for k, is_call in enumerate(words) if not is_call], default=0)
    return tuple(deed[1] for deed in log[start:])


def plain_refusal(web, row, deed):
    """The refusal of the web's or the rows' own deed, None where it is taken."""
    does = {
        "call": lambda: called(web, row, deed[1]), "part": lambda: web.parted(deed[1]),
        "join": lambda: web.joined(deed[1], deed[2]), "turn": lambda: web.turned(deed[1], deed[2]),
    }
    try:
        does[deed[0]]()
    except (HeelError, WhoError, RoomError) as e:
        return e
    return None


def drawn_deed(chance, names):
    """A deed of these names, which may be refused."""
    name, whom = chance.choice(names), chance.choice(names + [None])
    word = chance.choice(("call", "call", "call", "join", "part", "turn"))
    return (word, name) if word in ("call", "part") else (word, name, whom)


class Checked(unittest.TestCase):
    def check_line(self, line, persons, row, log):
        web_told, row_told = plain_line(persons, row, log)
        self.assertEqual(line.web(), Web(web_told))
        self.assertEqual(line.now(), row_told)
        self.assertIs(type(line.now()), tuple)
        self.assertEqual(line.log(), tuple(log))
        self.assertIs(type(line.log()), tuple)
        self.assertEqual(len(line), len(log))
        self.assertIs(bool(line), len(log) > 0)
        self.assertEqual(str(line), " ".join(row_told))
        self.assertEqual(repr(line), "Line(" + str(len(log)) + ")")
        self.assertEqual(line.piles(), piles(Web(web_told), last_calls(log)))

    def check_unchanged(self, line, name, deed):
        """The deed is refused by this class, and nothing changes."""
        was = frozen(line), str(line), line.piles()
        told = refusal(self, name, deed)
        self.assertEqual((frozen(line), str(line), line.piles()), was)
        return told


class Made(Checked):
    def test_at_first(self):
        for web in drawn_webs(100, 1):
            row = drawn_row(random.Random(101), web)
            for line in (Line(web, row), Line(web=web, row=row), Line(row=row, web=web)):
                self.check_line(line, web.persons, row, ())
                self.assertEqual(line.piles(), home_of(web))

    def test_refused(self):
        good = {"web": Web(CHAIN), "row": ("d", "b", "a", "c")}
        check_refusals(self, Line, good, [("web", wrong_webs()), ("row", wrong_rows())])

    def test_interface(self):
        self.assertEqual(lines.MOST_DEEDS, 2000)
        for name in LISTED:
            self.assertTrue(inspect.isfunction(vars(Line)[name]), name)
        self.assertEqual(Line.__module__, "heelrow.lines")


class Do(Checked):
    def test_told(self):
        line = Line(Web(CHAIN), DCBA)
        self.assertIsNone(line.do(("call", "b")))
        self.assertEqual(line.now(), ("d", "c", "a", "b"))
        self.assertIsNone(line.do(("join", "x", "d")))
        self.assertEqual(line.now(), ("d", "c", "a", "b", "x"))
        self.assertIsNone(line.do(("call", "x")))
        self.assertEqual(str(line), "d x c a b")
        self.assertIsNone(line.do(deed=("turn", "x", None)))
        self.assertEqual(line.web().leaders(), ("a", "x"))
        self.assertEqual(line.piles(), home_of(line.web()))
        self.assertIsNone(line.do(("part", "d")))
        self.assertEqual(str(line), "x c a b")
        self.assertEqual(str(line.web()), "a\nb > a\nc > b\nx")
        self.assertEqual(line.log(), (("call", "b"), ("join", "x", "d"), ("call", "x"), ("turn", "x", None), ("part", "d")))
        self.assertEqual(repr(line), "Line(5)")
        for k in range(5):
            self.assertIsNone(line.back())
        self.check_line(line, CHAIN, DCBA, ())

    def test_drawn_deeds_done_and_taken_back(self):
        chance = random.Random(102)
        kinds = set()
        for web in drawn_webs(103, 3):
            row = drawn_row(chance, web)
            names = list(web.names()) + ["new", "zed", "Odd", ""]
            line, log = Line(web, row), []
            for k in range(40):
                if log and chance.randrange(4) == 0:
                    self.assertIsNone(line.back())
                    log.pop()
                else:
                    deed = drawn_deed(chance, names)
                    want = plain_refusal(line.web(), line.now(), deed)
                    if want is None:
                        self.assertIsNone(line.do(deed))
                        log.append(deed)
                        kinds.add(deed[0])
                    else:
                        told = self.check_unchanged(line, type(want).__name__, lambda: line.do(deed))
                        self.assertEqual(vars(told), vars(want))
                        kinds.add(type(want).__name__)
                self.check_line(line, web.persons, row, log)
            # What was handed in stays as it was.
            self.assertEqual(Line(web, row).now(), row)
        refused = {"NoName", "Leads", "NoNew", "Full", "Followed", "Alone", "Ring"}
        self.assertEqual(kinds, {"call", "join", "part", "turn"} | refused)

    def test_no_deed(self):
        for thing in wrong_deeds():
            line = Line(Web(CHAIN), DCBA)
            line.do(("call", "b"))
            was = frozen(thing)
            self.assertIs(self.check_unchanged(line, "NoDeed", lambda: line.do(thing)).deed, thing)
            self.assertEqual(frozen(thing), was)

    def test_refused_as_the_others(self):
        line = Line(Web(CHAIN), DCBA)
        cases = [
            (("call", "no"), "NoName", "no"), (("call", "B"), "NoName", "B"), (("call", ""), "NoName", ""),
            (("call", "a"), "Leads", "a"), (("join", "a", None), "NoNew", "a"), (("join", "X", "no"), "NoNew", "X"),
            (("join", "x", "no"), "NoName", "no"), (("join", "x", "x"), "NoName", "x"), (("part", "no"), "NoName", "no"),
            (("part", "c"), "Followed", "c"), (("turn", "no", "no too"), "NoName", "no"),
            (("turn", "a", "no too"), "NoName", "no too"), (("turn", "b", "b"), "Ring", "b"),
            (("turn", "b", "d"), "Ring", "d"), (("turn", "a", ""), "NoName", ""),
        ]
        for deed, name, field in cases:
            told = self.check_unchanged(line, name, lambda: line.do(deed))
            self.assertEqual(told.name, field)
        alone = Line(Web(ALONE), ("a",))
        self.check_unchanged(alone, "Alone", lambda: alone.do(("part", "a")))
        twelve = Line(Web(TWELVE), Web(TWELVE).names())
        self.assertEqual(self.check_unchanged(twelve, "Full", lambda: twelve.do(("join", "x", "a"))).many, 12)
        self.assertEqual(self.check_unchanged(twelve, "NoNew", lambda: twelve.do(("join", "a", "a"))).name, "a")

    def test_web_and_row_told_stay(self):
        line = Line(Web(CHAIN), DCBA)
        web, row, log = line.web(), line.now(), line.log()
        line.do_all((("call", "c"), ("turn", "d", None)))
        self.assertEqual((web, row, log), (Web(CHAIN), DCBA, ()))


class DoAll(Checked):
    def test_told(self):
        deeds = (("call", "b"), ("join", "x", "b"), ("call", "x"), ("turn", "c", "a"))
        for done in (lambda line: line.do_all(deeds), lambda line: line.do_all(deeds=deeds)):
            line = Line(Web(CHAIN), DCBA)
            self.assertIsNone(done(line))
            self.check_line(line, CHAIN, DCBA, deeds)
        self.assertIsNone(line.do_all(()))
        self.check_line(line, CHAIN, DCBA, deeds)

    def test_as_one_by_one(self):
        chance = random.Random(104)
        for web in drawn_webs(105, 2):
            row = drawn_row(chance, web)
            names = list(web.names()) + ["new"]
            one, log = Line(web, row), []
            for k in range(60):
                deed = drawn_deed(chance, names)
                if plain_refusal(one.web(), one.now(), deed) is None:
                    one.do(deed)
                    log.append(deed)
            other = Line(web, row)
            self.assertIsNone(other.do_all(tuple(log)))
            self.assertEqual(one, other)
            self.check_line(other, web.persons, row, log)
            for k in range(len(log), 0, -1):
                other.back()
                self.check_line(other, web.persons, row, log[:k - 1])

    def test_refused_in_the_middle(self):
        good = (("call", "b"), ("join", "x", "d"), ("part", "x"))
        cases = [
            (("call", "a"), "Leads", "a"), (("call", "x"), "NoName", "x"), (("join", "a", None), "NoNew", "a"),
            (("part", "b"), "Followed", "b"), (("turn", "a", "d"), "Ring", "d"), (("call",), "NoDeed", ("call",)),
            (None, "NoDeed", None), (["call", "b"], "NoDeed", ["call", "b"]), (("call", 5), "NoDeed", ("call", 5)),
        ]
        line = Line(Web(CHAIN), DCBA)
        line.do(("call", "c"))
        for deed, name, field in cases:
            for behind in ((), (("call", "b"),), (5,), (("call", "a"), ("part", "no"))):
                told = self.check_unchanged(line, name, lambda: line.do_all(good + (deed,) + behind))
                self.assertEqual(told.deed if name == "NoDeed" else told.name, field)
                self.check_line(line, CHAIN, DCBA, [("call", "c")])
        # x stands just where the deeds ahead have it join.
        self.assertIsNone(line.do_all(good[:2] + (("call", "x"),)))
        self.assertEqual(len(line), 4)

    def test_no_deed(self):
        line = Line(Web(CHAIN), DCBA)
        for thing in wrong_kinds() + ["call", [("call", "b")], {("call", "b"): 1}, Web(CHAIN)]:
            self.assertIs(self.check_unchanged(line, "NoDeed", lambda: line.do_all(thing)).deed, thing)
        # A deed itself is no tuple of deeds: its word is the first that is refused.
        self.assertEqual(self.check_unchanged(line, "NoDeed", lambda: line.do_all(("call", "b"))).deed, "call")
        for thing in wrong_deeds():
            self.assertIs(self.check_unchanged(line, "NoDeed", lambda: line.do_all((thing,))).deed, thing)
            told = self.check_unchanged(line, "NoDeed", lambda: line.do_all((("call", "b"), thing, None)))
            self.assertIs(told.deed, thing)


class Back(Checked):
    def test_nothing_to_take_back(self):
        line = Line(Web(CHAIN), DCBA)
        self.check_unchanged(line, "NoBack", line.back)
        line.do(("call", "b"))
        line.back()
        self.check_unchanged(line, "NoBack", line.back)
        self.check_line(line, CHAIN, DCBA, ())

    def test_done_again(self):
        line = Line(Web(STAR), ("z", "a", "b", "mid"))
        deeds = (("turn", "z", "a"), ("call", "z"), ("join", "new", "z"), ("part", "b"), ("call", "a"))
        for k in range(3):
            for deed in deeds:
                line.do(deed)
            self.check_line(line, STAR, ("z", "a", "b", "mid"), deeds)
            for deed in deeds:
                self.assertIsNone(line.back())
            self.check_line(line, STAR, ("z", "a", "b", "mid"), ())


class Room(Checked):
    def full_line(self, web, row):
        line = Line(web, row)
        calls = drawn_calls(random.Random(106), web, MOST_DEEDS)
        line.do_all(tuple(("call", name) for name in calls))
        return line, calls

    def test_two_thousand_and_one_more(self):
        web = Web(SEVERAL)
        row = web.names()[::-1]
        line, calls = self.full_line(web, row)
        self.assertEqual(len(line), 2000)
        self.assertEqual(line.now(), plain_done(web, row, calls))
        self.assertEqual(repr(line), "Line(2000)")
        for deed in (("call", "bob"), ("join", "x", None), ("part", "gus"), ("turn", "bob", None)):
            self.assertEqual(self.check_unchanged(line, "Full", lambda: line.do(deed)).many, 2000)
            self.assertEqual(self.check_unchanged(line, "Full", lambda: line.do_all((deed,))).many, 2000)
        self.assertIsNone(line.do_all(()))
        line.back()
        self.assertEqual(line.now(), plain_done(web, row, calls[:-1]))
        self.assertEqual(self.check_unchanged(line, "Full", lambda: line.do_all((("call", "bob"),) * 2)).many, 2000)
        self.assertIsNone(line.do(("turn", "bob", None)))
        self.assertEqual(len(line), 2000)

    def test_behind_the_other_refusals(self):
        line, calls = self.full_line(Web(TWELVE), Web(TWELVE).names())
        cases = [
            (("call", "no"), "NoName"), (("call", "a"), "Leads"), (("join", "a", None), "NoNew"), (("call",), "NoDeed"),
            (("part", "b"), "Followed"), (("turn", "b", "c"), "Ring"), (None, "NoDeed"), (("turn", "b", "no"), "NoName"),
        ]
        for deed, name in cases:
            self.check_unchanged(line, name, lambda: line.do(deed))
            self.check_unchanged(line, name, lambda: line.do_all((deed, ("call", "b"))))
            self.assertEqual(self.check_unchanged(line, "Full", lambda: line.do_all((("call", "b"), deed))).many, 2000)
        self.assertEqual(self.check_unchanged(line, "Full", lambda: line.do(("join", "x", "a"))).many, 12)
        self.check_unchanged(line, "NoDeed", lambda: line.do_all([("call", "b")]))


class Piles(Checked):
    def check_lays(self, line, row):
        """What the calls laid is as from whichever row: so of the row at which they began."""
        at = dict(zip(line.web().names(), line.piles()))
        self.assertEqual(sum((at[name] for name in row), ()), line.now())

    def test_behind_a_deed_that_is_no_call(self):
        web = Web(CHAIN)
        line = Line(web, DCBA)
        line.do_all((("call", "b"), ("call", "c")))
        self.assertEqual(line.piles(), piles(web, ("b", "c")))
        line.do(("turn", "d", "a"))
        self.assertEqual(line.piles(), home_of(web))
        line.do(("call", "d"))
        self.assertEqual(line.piles(), (("a", "d"), ("b",), ("c",), ()))
        line.do(("join", "x", "a"))
        self.assertEqual(line.piles(), (("a",), ("b",), ("c",), ("d",), ("x",)))
        line.do_all((("call", "x"), ("part", "d")))
        self.assertEqual(line.piles(), (("a",), ("b",), ("c",), ("x",)))
        line.back()
        self.assertEqual(line.piles(), (("a", "x"), ("b",), ("c",), ("d",), ()))
        line.back()
        line.back()
        self.assertEqual(line.piles(), (("a", "d"), ("b",), ("c",), ()))
        line.back()
        line.back()
        self.assertEqual(line.piles(), piles(web, ("b", "c")))

    def test_however_many(self):
        chance = random.Random(107)
        for persons in (SEVERAL, TWELVE, STAR):
            web = Web(persons)
            row = drawn_row(chance, web)
            line = Line(web, row)
            for many in (400, 401, 900, 1999):
                line.do_all(tuple(("call", name) for name in drawn_calls(chance, web, many - len(line))))
                self.check_lays(line, row)
            line.do(("turn", line.web().callable()[0], None))
            self.assertEqual(line.piles(), home_of(web))

    def test_drawn(self):
        chance = random.Random(108)
        for web in drawn_webs(109, 2):
            row = drawn_row(chance, web)
            line = Line(web, row)
            for k in range(12):
                for name in drawn_calls(chance, line.web(), 1):
                    line.do(("call", name))
                self.check_lays(line, row)


class Alike(Checked):
    def test_where_webs_and_rows_are(self):
        one, other = Line(Web(CHAIN), DCBA), Line(Web(CHAIN), DCBA)
        self.assertIs(one == other, True)
        one.do(("call", "b"))
        self.assertIs(one == other, False)
        self.assertIs(one != other, True)
        other.do(("call", "b"))
        self.assertIs(one == other, True)
        # By unlike logs, too.
        other.do(("call", "b"))
        self.assertIs(one == other, True)
        self.assertIs(one != other, False)
        self.assertEqual(Line(Web(CHAIN), ("d", "c", "a", "b")), other)
        other.do(("turn", "d", "a"))
        self.assertIs(one == other, False)
        one.do_all((("turn", "d", None), ("turn", "d", "a")))
        self.assertIs(one == other, True)
        self.assertIs(Line(Web(LEADERS), Web(LEADERS).names()) == Line(Web(LEADERS), Web(LEADERS).names()[::-1]), False)

    def test_other_things_never(self):
        line = Line(Web(CHAIN), DCBA)
        for thing in wrong_kinds() + [DCBA, Web(CHAIN), (Web(CHAIN), DCBA), str(line), repr(line), (), 0, line.log()]:
            self.assertIs(line == thing, False)
            self.assertIs(thing == line, False)
            self.assertIs(line != thing, True)

    def test_two_lines_side_by_side(self):
        web = Web(CHAIN)
        one, other = Line(web, DCBA), Line(web, DCBA)
        one.do(("call", "b"))
        other.do(("turn", "c", None))
        self.check_line(one, CHAIN, DCBA, [("call", "b")])
        self.check_line(other, CHAIN, DCBA, [("turn", "c", None)])
        one.back()
        self.check_line(other, CHAIN, DCBA, [("turn", "c", None)])
        self.assertEqual(web, Web(CHAIN))

    def test_plain_called(self):
        line = Line(Web(STAR), ("z", "a", "b", "mid"))
        line.do(("call", "a"))
        self.assertEqual(line.now(), plain_called(Web(STAR), ("z", "a", "b", "mid"), "a"))


if __name__ == "__main__":
    unittest.main()
