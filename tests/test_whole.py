"""What points 2, 3 and 4 promise over the whole program, and that all names of the interface are there."""

import inspect
import os
import subprocess
import sys
import tempfile
import unittest
from copy import deepcopy
from importlib import import_module
from itertools import permutations
from pathlib import Path

from helper import (BOW, EIGHT_SIDED, KITE, NET, WHEEL_OF_FIVE, WHEEL_OF_FOUR, bare, beside, foreign_things, full,
                    moved, named_webs, no_webs, odd_things, one_of_each_kind, part_of, ring, row, scattered, star,
                    webs_of)
from tiewebs import errors
from tiewebs.again import made_again, sizes_ahead
from tiewebs.bars import is_bar, least_bar, what_bars
from tiewebs.counts import all_webs, first_alike, kinds_of, tie_webs_many
from tiewebs.desk import Desk
from tiewebs.errors import NoWeb, WebError
from tiewebs.maps import map_to
from tiewebs.midsts import put_in
from tiewebs.onlies import root_kinds
from tiewebs.roots import root_holds, some_root
from tiewebs.sharings import all_sharings, is_sharing, root_by
from tiewebs.ties import tie_web
from tiewebs.webs import pieces

# The functions of each file with the names of what they are handed.
INTERFACE = {
    "webs": {"is_web": "thing", "near": "web place", "degrees": "web", "pieces": "web", "within": "web some"},
    "maps": {"map_holds": "one other thing", "map_to": "one other"},
    "ties": {"tie_web": "web", "star_of": "web place", "ties_ahead": "web"},
    "crowds": {"is_crowd": "web thing", "all_crowds": "web"},
    "sharings": {"is_sharing": "web thing", "all_sharings": "web", "root_by": "web sharing"},
    "roots": {"root_holds": "web thing", "some_root": "web", "shared_by": "web paper"},
    "bars": {"is_bar": "web thing", "all_bars": "web", "least_bar": "web", "claws": "web", "odd_threes": "web",
             "odd_pair": "web", "what_bars": "web"},
    "onlies": {"tie_map": "one other places", "map_behind": "one other ties", "root_kinds": "web"},
    "midsts": {"midst_web": "web", "whole_web": "web", "end_web": "web", "put_in": "web"},
    "again": {"made_again": "web times", "sizes_ahead": "web", "fate": "web"},
    "counts": {"all_webs": "many", "tie_webs_many": "many", "first_alike": "web", "kinds_of": "many",
               "kinds_many": "many"},
    "texts": {"web_text": "web", "read_web": "text"},
}

# What the functions with more than a web are asked beside it, for the webs below.
MORE = {
    "near": [0, 2], "star_of": [0, 2], "within": [(), (0, 2)], "is_crowd": [(0, 1), [0, 1], None],
    "is_sharing": [[], [(0, 1), (1, 2)], [(0, 1), (0, 2), (1, 2, 3)]],
    "root_by": [[], [(0, 1), (1, 2)], [(0, 1), (0, 2), (1, 2, 3)], [(0, 1), [0, 2]]],
    "root_holds": [None, [KITE, []], ((4, ((0, 1), (0, 2), (1, 2), (2, 3))), ((0, 1), (0, 2), (1, 2), (2, 3)))],
    "shared_by": [None, [KITE, []], ((4, ((0, 1), (0, 2), (1, 2), (2, 3))), ((0, 1), (0, 2), (1, 2), (2, 3)))],
    "is_bar": [(0, 1, 2, 3), [0, 1, 2, 3]], "made_again": [0, 1, 2, 7, [1]],
}


def some_webs():
    return [bare(0), bare(3), row(3), full(3), star(4), KITE, BOW, NET, WHEEL_OF_FIVE, EIGHT_SIDED, full(7),
            beside(full(3), full(3)), row(9), full(14)]


def questions():
    """Many questions to the program, as tuples of a function and the list of what it is handed, made anew."""
    found = []
    for file, functions in INTERFACE.items():
        module = import_module("tiewebs." + file)
        for name, handed in functions.items():
            function = getattr(module, name)
            if handed == "web":
                found.extend([(function, [web]) for web in some_webs()])
            elif handed.startswith("web "):
                found.extend([(function, [web, thing]) for web in some_webs() for thing in deepcopy(MORE[name])])
            elif handed.startswith("one other"):
                for web in some_webs():
                    other = moved(web, tuple(range(web[0]))[::-1])
                    things = [(), (1, 0), (2, 1, 0), [2, 1, 0], (3, 2, 1, 0)] if " " in handed[4:] else [None]
                    found.extend([(function, [web, other, thing][:handed.count(" ") + 1]) for thing in things])
            elif handed == "many":
                found.extend([(function, [many]) for many in (0, 1, 2, 3, 4, 5, True, [4])])
            else:
                things = [KITE, "4: 0-1 2-3", "0:", ["4:"], {"4:": [()]}, [4, [()]], None, *odd_things()]
                found.extend([(function, [thing]) for thing in things])
    return found


def outcome(function, handed):
    """What is told, or how it is refused."""
    try:
        return ("told", function(*handed))
    except WebError as refusal:
        return (type(refusal).__name__, dict(vars(refusal)))


def lists_in(thing):
    """All lists in a thing, itself too."""
    found = [thing] if isinstance(thing, list) else []
    if isinstance(thing, (list, tuple)):
        for part in thing:
            found.extend(lists_in(part))
    return found


def desk_talk():
    """What a desk answers to some lines."""
    desk = Desk()
    talk = ["places 4", "tie 0 1", "tie 1 2", "tie 0 2", "web", "root", "shared", "tie 3 2", "shared", "ahead", "fate",
            "make", "make", "web", "root", "shared", "ahead", "fate", "back", "web", "back", "back", "web", "tie 9 9"]
    return [outcome(desk.say, [line]) for line in talk]


def tell_all():
    """Everything above as one text, for a run of its own."""
    return repr([outcome(function, handed) for function, handed in questions()] + desk_talk())


class Interface(unittest.TestCase):
    def test_functions(self):
        for file, functions in INTERFACE.items():
            module = import_module("tiewebs." + file)
            for name, handed in functions.items():
                signature = inspect.signature(getattr(module, name))
                self.assertEqual(list(signature.parameters), handed.split(), name)

    def test_the_desk(self):
        self.assertEqual(list(inspect.signature(Desk).parameters), [])
        self.assertEqual(list(inspect.signature(Desk().say).parameters), ["line"])

    def test_all_functions_with_a_web_refuse_what_is_none(self):
        for file, functions in INTERFACE.items():
            for name, handed in functions.items():
                function = getattr(import_module("tiewebs." + file), name)
                if handed.split()[0] == "web":
                    rest = [[None], [()], [0], [99], [[]]] if " " in handed else [[]]
                    for thing in no_webs():
                        for more in rest:
                            with self.subTest(name=name, thing=thing), self.assertRaises(NoWeb):
                                function(thing, *more)

    def test_of_two_webs_each_that_is_none_is_refused_ahead_of_all_else(self):
        for file, functions in INTERFACE.items():
            for name, handed in functions.items():
                function = getattr(import_module("tiewebs." + file), name)
                if handed.split()[0] == "one":
                    more = [None][:handed.count(" ") - 1]
                    for thing in no_webs():
                        for one, other in [(thing, row(2)), (row(2), thing), (full(14), thing), (thing, full(14))]:
                            with self.subTest(name=name, thing=thing), self.assertRaises(NoWeb):
                                function(one, other, *more)


class PointTwo(unittest.TestCase):
    def test_whatever_is_handed_in_is_answered(self):
        asked = {"is_web": [], "map_holds": [KITE, KITE], "is_crowd": [KITE], "is_sharing": [KITE],
                 "root_holds": [KITE], "is_bar": [star(4)]}
        for file, functions in INTERFACE.items():
            for name in functions:
                if name in asked:
                    function = getattr(import_module("tiewebs." + file), name)
                    for thing in odd_things() + foreign_things():
                        with self.subTest(name=name, thing=thing):
                            self.assertIs(function(*asked[name], thing), False)

    def test_truths_are_no_whole_numbers(self):
        for file, name, handed, kind in [
                ("webs", "near", [KITE, True], errors.NoPlace), ("webs", "within", [KITE, (False, 2)], errors.NoPlaces),
                ("ties", "star_of", [KITE, False], errors.NoPlace),
                ("again", "made_again", [KITE, True], errors.NoNumber),
                ("sharings", "root_by", [row(2), [(False, True)]], errors.NoSharing),
                ("roots", "shared_by", [bare(1), ((2, ((0, 1),)), ((False, True),))], errors.NoRoot),
                ("onlies", "tie_map", [row(2), row(2), (False, True)], errors.NoMap),
                ("onlies", "map_behind", [row(3), row(3), (True, False)], errors.NoMap),
                ("counts", "all_webs", [True], errors.NoNumber), ("counts", "tie_webs_many", [False], errors.NoNumber),
                ("counts", "kinds_of", [True], errors.NoNumber), ("counts", "kinds_many", [False], errors.NoNumber),
                ("texts", "web_text", [(True, ())], errors.NoWeb), ("texts", "read_web", [True], errors.NoText)]:
            with self.subTest(name=name), self.assertRaises(kind):
                getattr(import_module("tiewebs." + file), name)(*handed)


class PointThree(unittest.TestCase):
    def test_nothing_handed_in_is_changed(self):
        for function, handed in questions():
            before = deepcopy(handed)
            outcome(function, handed)
            self.assertEqual(handed, before, function.__name__)

    def test_nothing_hangs_on_what_is_done_to_it_later(self):
        for function, handed in questions():
            told = outcome(function, handed)
            before = deepcopy(told)
            asked = deepcopy(handed)
            for some in lists_in(handed[1:]) + lists_in(handed[:1]):
                some.append("more")
            self.assertEqual(told, before, function.__name__)
            self.assertEqual(outcome(function, asked), before, function.__name__)

    def test_what_is_told_is_the_askers_own(self):
        for function, handed in questions():
            told, again = outcome(function, handed), outcome(function, handed)
            lists = lists_in(told) + lists_in(again) + lists_in(tuple(handed))
            self.assertEqual(len({id(some) for some in lists}), len(lists), function.__name__)
            for some in lists_in(told):
                some.insert(0, "more")
                some.reverse()
            self.assertEqual(outcome(function, handed), again, function.__name__)

    def test_the_same_question_has_the_same_answer(self):
        # All other questions and refusals stand between.
        ahead = [outcome(function, handed) for function, handed in questions()]
        talk = desk_talk()
        behind = [outcome(function, handed) for function, handed in reversed(questions())]
        self.assertEqual(behind[::-1], ahead)
        self.assertEqual(desk_talk(), talk)

    def test_nothing_hangs_on_chance_or_files(self):
        here = Path(__file__).resolve().parent
        expected = tell_all()
        for seed in ("0", "1", "4242"):
            with tempfile.TemporaryDirectory() as folder:
                told = subprocess.run(
                    [sys.executable, "-B", "-c", "import sys, test_whole; sys.stdout.write(test_whole.tell_all())"],
                    cwd=folder, env={**os.environ, "PYTHONPATH": f"{here.parent}{os.pathsep}{here}",
                                     "PYTHONHASHSEED": seed, "TZ": "UTC+" + seed[0]},
                    capture_output=True, text=True, check=True).stdout
                self.assertEqual(os.listdir(folder), [])
            self.assertEqual(told, expected)

    def test_what_is_refused_changes_nothing(self):
        desk = Desk()
        for line in ("places 8", "tie 0 1", "tie 0 2", "tie 0 3"):
            desk.say(line)
        ahead = [outcome(desk.say, [line]) for line in ("web", "root", "shared", "ahead", "fate")]
        for line in ("tie 8 0", "tie 3 3", "places 15", "root", "shared", "fate", "nothing", None, ["back"],
                     "back back"):
            with self.assertRaises(WebError):
                desk.say(line)
            self.assertEqual([outcome(desk.say, [line]) for line in ("web", "root", "shared", "ahead", "fate")], ahead)
        for text in ("8: 0-1 0-2", "8: 0-1", "8:", "0:"):
            self.assertEqual(desk.say("back"), "ok")
            self.assertEqual(desk.say("web"), text)


class PointFour(unittest.TestCase):
    def webs(self):
        found = [web for many in range(6) for web in webs_of(many)] + one_of_each_kind(6) + webs_of(6)[::1009]
        return found + scattered(7, 5, 2) + scattered(7, 5, 5) + [full(7), ring(7), row(7), star(7)]

    def test_a_web_is_a_tie_web_just_where_it_is_shared_and_just_where_nothing_bars_it(self):
        for web in self.webs():
            shared = all_sharings(web) != []
            self.assertIs(some_root(web) is not None, shared, web)
            self.assertIs(what_bars(web) is None, shared, web)
            if web[0] < 5 or len(web[1]) % 3 == 0:
                self.assertIs(least_bar(web) is None, shared, web)
            if web[0] < 6:
                self.assertIs(put_in(web) == (), shared, web)
            if web[0] < 7 and len(pieces(web)) < 2:
                self.assertIs(root_kinds(web) != [], shared, web)

    def test_all_webs_that_are_made_are_tie_webs(self):
        for web in self.webs():
            if len(web[1]) <= 7:
                made = tie_web(web)
                self.assertIsNone(what_bars(made), web)
                self.assertNotEqual(all_sharings(made), [], web)

    def test_how_many_are_tie_webs(self):
        for many in range(5):
            shared = [web for web in all_webs(many) if what_bars(web) is None]
            self.assertEqual(sum(tie_webs_many(many)), len(shared))
            self.assertEqual(set(shared), named_webs(many))

    def test_the_desk_says_the_same(self):
        for web in webs_of(4) + webs_of(5)[::29] + [full(7), star(7), WHEEL_OF_FOUR, WHEEL_OF_FIVE]:
            desk = Desk()
            for line in [f"places {web[0]}"] + [f"tie {a} {b}" for a, b in web[1]]:
                desk.say(line)
            self.assertEqual(desk.say("root"), "yes" if what_bars(web) is None else "no")
            self.assertIs(desk.say("shared") == "no", what_bars(web) is not None)

    def test_it_is_shown_to_anyone_whoever_made_it(self):
        for web in self.webs():
            for sharing in all_sharings(web)[:2]:
                # Made anew by another hand: by the parts of texts.
                made = [tuple([int(str(place)) for place in crowd]) for crowd in sharing]
                self.assertIs(is_sharing(web, made), True)
                root, names = root_by(web, sharing)
                turned = tuple(range(root[0]))[::-1]
                paper = (moved(root, turned), tuple([tuple(sorted([turned[a], turned[b]])) for a, b in names]))
                self.assertIs(root_holds(web, paper), True)
        for web in (star(4), star(7), WHEEL_OF_FIVE, *scattered(7, 10, 4)):
            bar = least_bar(web)
            if bar is not None:
                self.assertIs(is_bar(web, tuple(list(bar))), True)
                self.assertEqual(all_sharings(part_of(web, bar)), [])

    def test_a_tie_web_tells_all_of_a_joined_web_but_for_a_ring_and_a_star_of_three(self):
        found = {}
        for many in range(2, 7):
            for web in one_of_each_kind(many):
                if len(pieces(web)) == 1 and len(web[1]) <= 6:
                    found.setdefault(first_alike(tie_web(web)), []).append(web)
        found.setdefault(full(6), []).append(star(7))
        for made, webs in found.items():
            kinds = root_kinds(made)
            self.assertEqual(len(kinds), 2 if made == full(3) else 1, made)
            if made == full(3):
                self.assertEqual([first_alike(web) for web in webs], [full(3), star(4)])
            self.assertEqual(len(webs), len(kinds), made)
            for web, kind in zip(webs, kinds):
                self.assertIsNotNone(map_to(web, kind), made)

    def test_what_is_made_has_the_sizes_that_are_told_ahead(self):
        for web in self.webs()[::7] + [row(8), ring(7), star(8)]:
            made, times = web, 0
            while len(made[1]) <= 7 and times < 6:
                ahead = sizes_ahead(made)
                times += 1
                made = made_again(web, times)
                self.assertEqual([made[0], len(made[1])], ahead[1:3], (web, times))
                self.assertEqual(sizes_ahead(made)[:3], ahead[1:], (web, times))

    def test_the_desk_makes_what_it_tells_ahead(self):
        for web in (row(8), ring(7), star(8), star(4), KITE, NET, (14, ((0, 1), (1, 2), (5, 13)))):
            desk = Desk()
            for line in [f"places {web[0]}"] + [f"tie {a} {b}" for a, b in web[1]]:
                desk.say(line)
            ahead = desk.say("ahead").split()
            desk.say("make")
            self.assertEqual(desk.say("ahead").split()[:3], ahead[1:])

    def test_a_desk_hangs_on_the_deeds_that_stand_alone(self):
        lines = ("places 4", "tie 0 1", "make", "back")
        for talk in permutations(lines + ("tie 0 1", "tie 2 3"), 5):
            desk, stand = Desk(), []
            for line in talk:
                try:
                    desk.say(line)
                except WebError:
                    continue
                stand = stand[:-1] if line == "back" else stand + [line]
            anew = Desk()
            for line in stand:
                self.assertEqual(anew.say(line), "ok")
            self.assertEqual(desk.say("web"), anew.say("web"), talk)
            self.assertEqual(outcome(desk.say, ["back"]), outcome(anew.say, ["back"]))
            self.assertEqual(desk.say("web"), anew.say("web"), talk)

    def test_each_first_one_is_first(self):
        for many in range(5):
            for kind in kinds_of(many):
                self.assertEqual(first_alike(kind), kind)


if __name__ == "__main__":
    unittest.main()
