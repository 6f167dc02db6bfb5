"""What is promised over the whole program: all questions, asked of the same web, by turns, by other names."""

import random
import unittest

from heelrow.books import steps, sure, tells, web_for, webs_many
from heelrow.chances import chance
from heelrow.checker import holds
from heelrow.desk import Desk
from heelrow.errors import HeelError, RoomError, WhoError
from heelrow.lines import Line
from heelrow.papers import paper_alike, paper_book, paper_piles, paper_share, paper_torn, paper_way
from heelrow.piles import again, alike, behind, idle, laid, parting, piles
from heelrow.rests import is_rest, number_of, rest_at, rests_many
from heelrow.rows import called, done, is_row
from heelrow.runs import bar, fewest, how_many, runs
from heelrow.shares import mean_ahead, share
from heelrow.sures import firsts, lasts, musts
from heelrow.torn import places, readings
from heelrow.turns import firm, stands, turn_of, way
from heelrow.webs import Web, is_name
from heelrow.webtexts import read_web
from tests.helper import (
    check_told, comes_from, drawn_book, drawn_calls, drawn_row, drawn_torn, drawn_web, drawn_weights, drawn_wish, frozen,
    loose_book, plain_done, small_webs, stands_so,
)


class Case:
    """Drawn things of one web to ask by."""

    def __init__(self, seed, most):
        chance = random.Random(seed)
        self.web = drawn_web(chance, chance.randint(1, most))
        self.row, self.other = drawn_row(chance, self.web), drawn_row(chance, self.web)
        self.calls, self.more = drawn_calls(chance, self.web, 5), drawn_calls(chance, self.web, 4)
        self.end = plain_done(self.web, self.row, self.calls)
        self.piles = piles(self.web, self.calls)
        self.name, self.whom = chance.choice(self.web.names()), chance.choice(self.web.names())
        self.wish = drawn_wish(chance, self.web, 3)
        self.weights = drawn_weights(chance, self.web)
        self.torn = drawn_torn(chance, self.web, 4, 5)
        self.book = drawn_book(chance, self.web, 6)
        self.loose = loose_book(chance, self.web.names(), 5)

    def renamed(self, names):
        """The same with each name put otherwise."""
        other = Case.__new__(Case)
        for key, thing in vars(self).items():
            setattr(other, key, Web(tuple(sorted(renamed(thing.persons, names)))) if key == "web" else renamed(thing, names))
        # Piles and weights stand as the names rise.
        turn = sorted(range(len(self.web)), key=lambda k: names[self.web.names()[k]])
        other.piles = tuple(renamed(self.piles[k], names) for k in turn)
        follow = sorted(range(len(self.weights)), key=lambda k: names[self.web.callable()[k]])
        other.weights = tuple(self.weights[k] for k in follow)
        return other


def renamed(thing, names):
    """A thing with each name in it put otherwise."""
    if isinstance(thing, tuple):
        return tuple(renamed(one, names) for one in thing)
    return names.get(thing, thing) if isinstance(thing, str) else thing


def questions(case):
    """(function, arguments by name, those that are handed in by their names alone) of every function."""
    web, row, wish = {"web": case.web}, {"row": case.row}, {"wish": case.wish}
    some, two = {"piles": case.piles}, {"calls": case.calls, "other": case.more}
    most = {"most": 20000}
    found = [
        (is_name, {"thing": case.name}, {}), (is_row, {**web, "thing": case.row}, {}),
        (called, {**web, **row, "name": case.name}, {}), (done, {**web, **row, "calls": case.calls}, {}),
        (laid, {**web, **row, **some}, {}), (piles, {**web, "calls": case.calls}, {}),
        (behind, {**web, **some, "other": case.piles}, {}), (again, {**web, **some, "times": 10 ** 30}, {}),
        (alike, {**web, **two}, {}), (parting, {**web, **two}, {}), (idle, {**web, "calls": case.calls}, {}),
        (bar, {**web, **some}, {}), (runs, {**web, **some}, {}), (fewest, {**web, **some}, {}),
        (how_many, {**web, **some}, {}), (stands, {**web, **wish}, most), (way, {**web, **row, **wish}, most),
        (turn_of, {**web, **row, "one": case.name, "other": case.whom}, {}), (firm, {**web, **row}, {}),
        (musts, {**web, **row, "other": case.end}, most), (firsts, {**web, **row, "other": case.end}, most),
        (lasts, {**web, **row, "other": case.end}, most), (musts, {**web, **row, "other": case.other}, most),
        (is_rest, {**web, **row, "thing": case.end}, {}), (rests_many, web, {}),
        (rest_at, {**web, **row, "number": 0}, {}), (number_of, {**web, **row, "rest": case.end}, {}),
        (share, {**web, **row, "weights": case.weights, **wish}, most),
        (mean_ahead, {**web, **row, "weights": case.weights, "name": case.name}, {}),
        (chance, {**web, **row, "weights": case.weights, **wish, "many": 6}, most),
        (readings, {**web, **row, **wish, "torn": case.torn}, most),
        (places, {**web, **row, **wish, "torn": case.torn}, most), (steps, {"book": case.book}, {}),
        (tells, {**web, "book": case.book}, {}), (tells, {**web, "book": case.loose}, {}),
        (web_for, {"book": case.book}, {}), (web_for, {"book": case.loose}, {}), (webs_many, {"book": case.book}, most),
        (webs_many, {"book": case.loose}, most), (sure, {"book": case.book}, {}), (sure, {"book": case.loose}, {}),
        (paper_alike, {**web, **two}, {}), (paper_piles, {**web, **some}, {}), (paper_way, {**web, **row, **wish}, most),
        (paper_share, {**web, **row, "weights": case.weights, **wish}, most),
        (paper_torn, {**web, **row, **wish, "torn": case.torn}, most), (paper_book, {"book": case.book}, {}),
        (paper_book, {"book": case.loose}, {}), (read_web, {"text": str(case.web)}, {}),
    ]
    claim, paper = paper_way(case.web, case.row, case.wish, most=20000)
    return found + [(holds, {"claim": claim, "paper": paper}, {})]


def told(function, given, named):
    """What a function tells, or how it refuses."""
    try:
        return function(**given, **named)
    except (HeelError, WhoError, RoomError) as e:
        return (type(e), vars(e))


def answers(case):
    return [(function.__name__, told(function, given, named)) for function, given, named in questions(case)]


def is_told_only(thing):
    """Whether what is told is made of tuples, texts, whole numbers, truths, Nones and webs alone."""
    if isinstance(thing, tuple):
        return all(is_told_only(one) for one in thing)
    return thing is None or type(thing) in (str, int, bool, Web)


class Asked(unittest.TestCase):
    def test_by_place_and_by_names(self):
        for seed in range(25):
            for function, given, named in questions(Case(seed, 7)):
                want = told(function, given, named)
                if isinstance(want, tuple) and want and isinstance(want[0], type):
                    continue
                check_told(self, function, given, want, **named)
                self.assertTrue(is_told_only(want), function)

    def test_by_turns_as_of_one_made_anew(self):
        chance = random.Random(190)
        for seed in range(40):
            case = Case(seed, 7)
            want = answers(case)
            turn = list(enumerate(questions(case)))
            for k in range(2):
                chance.shuffle(turn)
                for at, (function, given, named) in turn:
                    fresh = {**given, "web": Web(tuple(list(case.web.persons)))} if "web" in given else given
                    self.assertEqual(told(function, given, named), want[at][1], function)
                    self.assertEqual(told(function, fresh, named), want[at][1], function)
            self.assertEqual(answers(Case(seed, 7)), want)

    def test_what_is_handed_in_stays(self):
        for seed in range(25):
            case = Case(seed, 7)
            was = frozen(list(vars(case).values()))
            answers(case)
            self.assertEqual(frozen(list(vars(case).values())), was)

    def test_two_webs_side_by_side(self):
        for seed in range(0, 40, 2):
            one, other = Case(seed, 7), Case(seed + 1, 7)
            want = [answers(one), answers(other)]
            pairs = list(zip(questions(Case(seed, 7)), questions(Case(seed + 1, 7))))
            for at, both in enumerate(pairs):
                for k, (function, given, named) in enumerate(both):
                    self.assertEqual(told(function, given, named), want[k][at][1], function)


class OtherNames(unittest.TestCase):
    def test_names_that_rise_alike(self):
        # All is told by how names compare alone, so the same comes with the names put otherwise.
        for seed in range(40):
            case = Case(seed, 7)
            names = dict(zip(case.web.names(), sorted(random.Random(seed).sample(
                ["ada", "bee", "cleo", "dora", "edith", "flo", "gina", "hedwig", "ida"], len(case.web)))))
            other = case.renamed(names)
            for (name, want), (same, have) in zip(answers(case), answers(other)):
                if name == "read_web":
                    self.assertEqual(have.persons, renamed(want.persons, names))
                elif isinstance(want, tuple) and want and isinstance(want[0], type):
                    self.assertEqual((have[0], renamed(tuple(have[1].items()), {})),
                                     (want[0], renamed(tuple(want[1].items()), names)), name)
                else:
                    self.assertEqual(have, renamed(want, names), name)

    def test_names_that_rise_otherwise(self):
        # What doesn't hang on how names rise is the same; rising tuples have the same in them.
        same = (
            "is_name", "is_row", "called", "done", "laid", "alike", "idle", "how_many", "turn_of", "is_rest", "rests_many",
            "share", "mean_ahead", "chance", "readings", "tells", "webs_many", "holds",
        )
        rising = ("stands", "firm", "runs", "musts", "firsts", "lasts", "sure")
        for seed in range(40):
            case = Case(seed, 7)
            names = dict(zip(case.web.names(), random.Random(seed).sample(
                ["ada", "bee", "cleo", "dora", "edith", "flo", "gina", "hedwig", "ida"], len(case.web))))
            for (name, want), (again_name, have) in zip(answers(case), answers(case.renamed(names))):
                if isinstance(want, tuple) and want and isinstance(want[0], type):
                    self.assertEqual(have[0], want[0], name)
                elif name in same:
                    self.assertEqual(have, renamed(want, names), name)
                elif name in rising:
                    self.assertEqual(have, tuple(sorted(renamed(want, names))), name)
                elif name == "way":
                    self.assertEqual(want and len(want), have and len(have))
                elif name in ("web_for", "paper_book", "paper_alike", "paper_piles", "paper_way", "paper_torn"):
                    self.assertEqual(have[0] if name == "web_for" else have[0][0], want[0] if name == "web_for" else want[0][0])


class Promise(unittest.TestCase):
    def test_what_was_told_may_be_handed_in(self):
        for seed in range(40):
            case = Case(seed, 8)
            web, row = case.web, case.row
            self.assertEqual(read_web(str(web)), web)
            some = piles(web, fewest(web, behind(web, case.piles, piles(web, case.more))))
            self.assertEqual(laid(web, row, some), done(web, row, case.calls + case.more))
            self.assertTrue(is_row(web, done(web, row, case.calls)))
            self.assertEqual(number_of(web, row, rest_at(web, row, rests_many(web) - 1)), rests_many(web) - 1)
            calls = way(web, row, case.wish, most=20000)
            if calls is not None:
                end = done(web, row, calls)
                self.assertTrue(stands_so(end, case.wish))
                self.assertTrue(set(musts(web, row, end, most=20000)) <= set(calls))
                self.assertEqual(way(web, end, case.wish, most=20000), ())
            word, found = web_for(case.book)
            self.assertEqual(word, "web")
            self.assertTrue(tells(Web(found), case.book))
            for asked, given in ((paper_alike, (web, case.calls, case.more)), (paper_piles, (web, case.piles)),
                                 (paper_book, (case.book,)), (paper_book, (case.loose,))):
                self.assertIs(holds(*asked(*given)), True)

    def test_what_rests_comes_from_each_row_that_comes(self):
        for persons in small_webs("abcd")[::14]:
            web = Web(persons)
            row = web.names()[::-1]
            rows = comes_from(web, row)
            want = [one for one in rows if all(one in comes_from(web, other) for other in rows)]
            self.assertEqual([rest_at(web, row, k) for k in range(rests_many(web))], sorted(want))
            for rest in want:
                self.assertEqual(set(lasts(web, row, rest)) <= set(web.callable()), True)
                self.assertIs(way(web, row, rest) is None, False)

    def test_a_line_and_a_desk_beside_the_functions(self):
        for seed in range(30):
            case = Case(seed, 8)
            line, desk = Line(case.web, case.row), Desk(case.web, case.row)
            line.do_all(tuple(("call", name) for name in case.calls))
            for name in case.calls:
                desk.say("call " + name)
            self.assertEqual(line.now(), done(case.web, case.row, case.calls))
            self.assertEqual(line.piles(), piles(case.web, case.calls))
            self.assertEqual(laid(case.web, case.row, line.piles()), line.now())
            self.assertEqual(desk.say("row"), str(line))
            self.assertEqual(desk.say("web").replace("; ", "\n"), str(line.web()))
            self.assertEqual(read_web(desk.say("web").replace("; ", "\n")), line.web())
            for name in case.calls:
                desk.say("back")
                line.back()
            self.assertEqual(line, Line(case.web, case.row))
            self.assertEqual(desk.say("log"), "none")


if __name__ == "__main__":
    unittest.main()
