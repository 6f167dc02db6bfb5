import inspect
import random
import unittest

from heelrow.checker import holds
from heelrow.desk import Desk
from heelrow.errors import HeelError, RoomError, WhoError
from heelrow.lines import Line
from heelrow.papers import paper_way
from heelrow.rests import rests_many
from heelrow.shares import mean_ahead, share
from heelrow.turns import turn_of, way
from heelrow.webs import Web
from tests.helper import (
    ALONE, CHAIN, LEADERS, SEVERAL, STAR, TWELVE, check_refusals, drawn_row, drawn_webs, refusal, wrong_kinds,
    wrong_rows, wrong_webs,
)

DCBA = ("d", "c", "b", "a")
ASKS = ("row", "web", "piles", "log", "rests")


def ones(line):
    return (1,) * len(line.web().callable())


def plain_deed(words):
    """The deed of these words."""
    if words[0] in ("join", "turn"):
        return (words[0], words[1], words[2] if len(words) == 3 else None)
    return tuple(words)


def plain_piles(line):
    rows = []
    for name, pile in zip(line.web().names(), line.piles()):
        rows.append(name + ":" + "".join(" " + one for one in pile))
    return "; ".join(rows)


def plain_log(line):
    return "; ".join(" ".join("-" if one is None else one for one in deed) for deed in line.log()) or "none"


def plain_say(line, row):
    """What a desk with this line says to a row of words that is so written, or how it refuses."""
    words = row.split(" ")
    names = tuple(words[1:])
    web, now = line.web(), line.now()
    if words[0] in ("call", "join", "part", "turn"):
        line.do(plain_deed(words))
        return "ok"
    if words[0] == "back":
        line.back()
        return "ok"
    if words[0] == "way":
        calls = way(web, now, names)
        return "never" if calls is None else " ".join(calls) if calls else "here"
    answers = {
        "row": lambda: " ".join(now), "web": lambda: "; ".join(str(web).split("\n")),
        "piles": lambda: plain_piles(line), "log": lambda: plain_log(line),
        "turn_of": lambda: turn_of(web, now, *names), "rests": lambda: str(rests_many(web)),
        "share": lambda: "/".join(map(str, share(web, now, ones(line), names))),
        "mean": lambda: "/".join(map(str, mean_ahead(web, now, ones(line), *names))),
        "paper": lambda: "holds" if holds(*paper_way(web, now, names)) else "no",
    }
    return answers[words[0]]()


def tried(deed):
    """What is told, or the refusal's class and fields."""
    try:
        return deed()
    except (HeelError, WhoError, RoomError) as e:
        return (type(e), vars(e))


def drawn_words(chance, names):
    """A row of words that is so written, of these names."""
    word, low, high = chance.choice((
        ("call", 1, 1), ("call", 1, 1), ("call", 1, 1), ("join", 1, 2), ("part", 1, 1), ("turn", 1, 2), ("back", 0, 0),
        ("row", 0, 0), ("web", 0, 0), ("piles", 0, 0), ("log", 0, 0), ("way", 1, 4), ("turn_of", 2, 2), ("rests", 0, 0),
        ("share", 1, 4), ("mean", 1, 1), ("paper", 1, 4)))
    return " ".join([word] + [chance.choice(names) for k in range(chance.randint(low, high))])


class Said(unittest.TestCase):
    def test_told(self):
        desk = Desk(Web(CHAIN), DCBA)
        rows = [
            ("row", "d c b a"), ("web", "a; b > a; c > b; d > c"), ("log", "none"), ("piles", "a: a; b: b; c: c; d: d"),
            ("way a b c", "b c"), ("way d a", "here"), ("way d", "here"), ("call b", "ok"), ("row", "d c a b"),
            ("piles", "a: a b; b:; c: c; d: d"), ("way b a", "never"), ("call c", "ok"), ("row", "d a b c"),
            ("piles", "a: a b c; b:; c:; d: d"), ("log", "call b; call c"), ("join x", "ok"), ("join y x", "ok"),
            ("row", "d a b c x y"), ("turn d", "ok"), ("web", "a; b > a; c > b; d; x; y > x"), ("part y", "ok"),
            ("turn d x", "ok"), ("log", "call b; call c; join x -; join y x; turn d -; part y; turn d x"),
            ("piles", "a: a; b: b; c: c; d: d; x: x"), ("turn_of a x", "ahead"), ("turn_of x a", "behind"),
            ("turn_of d a", "either"), ("rests", "1"), ("share d a", "0/1"), ("share a b", "1/1"), ("mean x", "3/1"),
            ("paper a d", "holds"), ("paper b a", "holds"), ("paper d", "holds"), ("back", "ok"),
            ("web", "a; b > a; c > b; d; x"), ("back", "ok"), ("row", "d a b c x y"),
        ]
        for row, answer in rows:
            self.assertEqual(desk.say(row), answer, row)
            self.assertIs(type(answer), str)

    def test_shares_and_means(self):
        desk = Desk(Web(STAR), ("z", "b", "mid", "a"))
        self.assertEqual(desk.say("share a b"), "1/2")
        self.assertEqual(desk.say("share z b a"), "1/6")
        self.assertEqual(desk.say("share a mid"), "0/1")
        self.assertEqual(desk.say("share mid"), "1/1")
        self.assertEqual(desk.say("mean a"), "2/1")
        self.assertEqual(desk.say("mean mid"), "0/1")
        self.assertEqual(desk.say("rests"), "6")
        self.assertEqual(desk.say("way mid a b z"), "z b a")

    def test_of_one(self):
        desk = Desk(Web(ALONE), ("a",))
        said = [desk.say(row) for row in ("row", "web", "piles", "log", "way a", "rests", "share a", "mean a", "paper a")]
        self.assertEqual(said, ["a", "a", "a: a", "none", "here", "1", "1/1", "0/1", "holds"])

    def test_by_its_name(self):
        self.assertEqual(Desk(web=Web(CHAIN), row=DCBA).say(row="row"), "d c b a")
        self.assertEqual(Desk(row=DCBA, web=Web(CHAIN)).say(row="call b"), "ok")

    def test_as_a_line(self):
        chance = random.Random(180)
        seen = {}
        for web in drawn_webs(181, 2):
            row = drawn_row(chance, web)
            desk, line = Desk(web, row), Line(web, row)
            names = list(web.names())[:7] * 3 + ["new", "zed"]
            for k in range(50):
                words = drawn_words(chance, names)
                want, told = tried(lambda: plain_say(line, words)), tried(lambda: desk.say(words))
                self.assertEqual(told, want, words)
                kinds = seen.setdefault(words.split(" ")[0], set())
                kinds.add(told if told in ("ok", "never", "here", "none", "holds") else type(told))
                for asked in ASKS:
                    self.assertEqual(desk.say(asked), plain_say(line, asked))
        for word in ("call", "join", "part", "turn", "back"):
            self.assertEqual(seen[word], {"ok", tuple})
        self.assertEqual(seen["way"], {"never", "here", str, tuple})
        self.assertEqual(seen["paper"], {"holds", tuple})
        self.assertEqual(seen["log"], {"none", str})
        self.assertEqual(seen["share"] & seen["mean"] & seen["turn_of"], {str, tuple})

    def test_two_desks_side_by_side(self):
        web = Web(CHAIN)
        one, other = Desk(web, DCBA), Desk(web, DCBA)
        one.say("call b")
        other.say("turn c")
        self.assertEqual((one.say("log"), other.say("log")), ("call b", "turn c -"))
        self.assertEqual((one.say("row"), other.say("row")), ("d c a b", "d c b a"))
        self.assertEqual(web, Web(CHAIN))
        self.assertIs(one == other, False)
        self.assertIs(one == Line(web, DCBA), False)
        self.assertIs(Line(web, DCBA) == one, False)


class Refused(unittest.TestCase):
    def check_same(self, desk, name, row):
        """The row is refused by this class, and nothing changes."""
        was = [desk.say(asked) for asked in ASKS]
        told = refusal(self, name, lambda: desk.say(row))
        self.assertEqual([desk.say(asked) for asked in ASKS], was)
        return told

    def test_no_say(self):
        desk = Desk(Web(CHAIN), DCBA)
        desk.say("call b")
        rows = [
            "", " ", "  ", "call", "call b c", "call  b", " call b", "call b ", "call b\n", "\ncall b", "call\nb", "Call b",
            "calls b", "call B", "call b1", "call abcdefg", "call -", "call b;", "call b; call c", "call\tb", "join",
            "join x a b", "join x -", "join x ", "join  x", "join X", "part", "part d c", "part ", "turn", "turn b a c",
            "turn b -", "turn b None", "back b", "back ", " back", "back back", "row a", "row ", "web a", "piles a", "log a",
            "log  ", "way", "way ", "way a  b", "way a B", "way a 1", "way a b ", "turn_of", "turn_of a", "turn_of a b c",
            "turn_of a  b", "turn_of A b", "turn of a b", "rests a", "rest", "share", "share ", "share a, b", "mean",
            "mean a b", "mean ", "paper", "paper ", "paper a A", "say row", "now", "do call b", "none", "ok", "b", "a b",
            "callb", "call(b)", "ROW", "row\n", "\n", "row;", "do", "line", "__init__", "x" * 4000, "call " * 800,
        ]
        for row in rows:
            self.assertEqual(self.check_same(desk, "NoSay", row).row, row)

    def test_no_text(self):
        desk = Desk(Web(CHAIN), DCBA)
        for thing in wrong_kinds() + [("call", "b"), ["call", "b"], ("row",), b"row", Web(CHAIN), Line(Web(CHAIN), DCBA), desk]:
            if not isinstance(thing, str):
                self.assertIs(self.check_same(desk, "NoSay", thing).row, thing)

    def test_as_the_line_refuses(self):
        desk = Desk(Web(CHAIN), DCBA)
        cases = [
            ("call no", "NoName", "no"), ("call a", "Leads", "a"), ("join a", "NoNew", "a"), ("join a no", "NoNew", "a"),
            ("join x no", "NoName", "no"), ("join x x", "NoName", "x"), ("part no", "NoName", "no"),
            ("part c", "Followed", "c"), ("turn no", "NoName", "no"), ("turn no no", "NoName", "no"),
            ("turn b no", "NoName", "no"), ("turn b b", "Ring", "b"), ("turn b d", "Ring", "d"),
            ("turn_of no a", "NoName", "no"), ("turn_of a no", "NoName", "no"), ("turn_of a a", "Same", "a"),
            ("turn_of no no", "NoName", "no"), ("mean no", "NoName", "no"), ("mean x", "NoName", "x"),
        ]
        for row, name, field in cases:
            self.assertEqual(self.check_same(desk, name, row).name, field)
        for word in ("way", "share", "paper"):
            self.assertEqual(self.check_same(desk, "NoWish", word + " no").place, 0)
            self.assertEqual(self.check_same(desk, "NoWish", word + " a b a no").place, 2)
            self.assertEqual(self.check_same(desk, "NoWish", word + " a b c d e").place, 4)
        self.check_same(desk, "NoBack", "back")
        desk.say("call b")
        desk.say("back")
        self.check_same(desk, "NoBack", "back")
        self.check_same(Desk(Web(ALONE), ("a",)), "Alone", "part a")

    def test_where_there_is_no_room(self):
        twelve = Desk(Web(TWELVE), Web(TWELVE).names())
        self.assertEqual(self.check_same(twelve, "Full", "join x").many, 12)
        self.assertEqual(self.check_same(twelve, "NoNew", "join a").name, "a")
        for word in ("way", "share", "paper"):
            self.assertEqual(self.check_same(twelve, "TooMany", word + " a b c d e f g h i").many, 2000)
            twelve.say(word + " a b c d e f g h")
        for k in range(2000):
            self.assertEqual(twelve.say("call b"), "ok")
        self.assertEqual(self.check_same(twelve, "Full", "call b").many, 2000)
        self.assertEqual(self.check_same(twelve, "Full", "join x").many, 12)
        self.assertEqual(self.check_same(twelve, "Leads", "call a").name, "a")
        twelve.say("back")
        self.assertEqual(twelve.say("turn b"), "ok")

    def test_made(self):
        good = {"web": Web(CHAIN), "row": ("d", "b", "a", "c")}
        check_refusals(self, Desk, good, [("web", wrong_webs()), ("row", wrong_rows())])

    def test_interface(self):
        for name in ("__init__", "say"):
            self.assertTrue(inspect.isfunction(vars(Desk)[name]), name)
        self.assertEqual(Desk.__module__, "heelrow.desk")


class Samples(unittest.TestCase):
    def test_web_and_piles_of_samples(self):
        desk = Desk(Web(SEVERAL), Web(SEVERAL).names())
        self.assertEqual(desk.say("web"), "ann; bob > ann; cy > bob; dee > ann; eve; fay > eve; gus")
        desk.say("call dee")
        desk.say("call cy")
        self.assertEqual(desk.say("piles"), "ann: ann dee; bob: bob cy; cy:; dee:; eve: eve; fay: fay; gus: gus")
        leaders = Desk(Web(LEADERS), Web(LEADERS).names())
        self.assertEqual(leaders.say("web"), "a; aa; ab; abcdef")
        self.assertEqual(leaders.say("way ab a"), "never")
        self.assertEqual(leaders.say("paper ab a"), "holds")


if __name__ == "__main__":
    unittest.main()
