import unittest
from copy import deepcopy
from itertools import combinations, permutations

from helper import (BOW, EIGHT_SIDED, KITE, NET, THIRTY, WHEEL_OF_FIVE, WHEEL_OF_FOUR, bare, beside, check_no_web,
                    check_too_many_places, foreign_things, full, moved, names_of, nested, odd_things, ring, root_named,
                    row, star, web_named, webs_of, without)
from tiewebs.errors import NoRoot, TooGreat
from tiewebs.roots import root_holds, shared_by, some_root
from tiewebs.sharings import all_sharings, is_sharing, root_by
from tiewebs.ties import tie_web

THREES = beside(full(3), full(3))
SOME_WEBS = [row(2), row(3), full(3), full(4), full(7), ring(4), ring(7), row(7), KITE, BOW, NET, EIGHT_SIDED,
             WHEEL_OF_FOUR, THREES, beside(BOW, bare(2)), beside(full(3), KITE)]


def papers_of(web):
    """The root papers that the sharings of a web make."""
    return [root_by(web, sharing) for sharing in all_sharings(web)]


def turned(paper, places):
    """The paper with place places[k] of the root where the one handed in has place k."""
    root, names = paper
    return (moved(root, places), tuple([tuple(sorted((places[a], places[b]))) for a, b in names]))


def no_papers():
    """Things of which none is a root paper of any web with places."""
    return odd_things() + foreign_things() + [
        0, 1, (), (0, ()), (2, ((0, 1),)), ((2, ((0, 1),)),), ((2, ((0, 1),)), None), ((2, ((0, 1),)), ()),
        ((2, ((0, 1),)), 0), ((2, ((0, 1),)), (0,)), ((2, ((0, 1),)), (0, 1)), ((2, ((0, 1),)), "01"),
        ((2, ((0, 1),)), {}), ((2, ((0, 1),)), {0: (0, 1)}), ((2, ((0, 1),)), [(0, 1)]), ((2, ((0, 1),)), ([0, 1],)),
        [(2, ((0, 1),)), ((0, 1),)], {"root": (2, ((0, 1),)), "names": ((0, 1),)}, ([2, ((0, 1),)], ((0, 1),)),
        ((2, [(0, 1)]), ((0, 1),)), ((2, ([0, 1],)), ((0, 1),)), ((2, ((1, 0),)), ((1, 0),)), ((1, ()), ((0, 0),)),
        ((2, ((0, 1),)), ((1, 0),)), ((2, ((0, 1),)), ((False, True),)), ((2, ((0, 1),)), ((0, True),)),
        ((2, ((False, True),)), ((0, 1),)), ((2, ((0, 1),)), ((0.0, 1.0),)), ((True, ()), ()),
        ((2, ((0, 1),)), (None,)),
        ((2, ((0, 1),)), ((0,),)), ((2, ((0, 1),)), ((0, 1, 1),)), ((2, ((0, 1),)), (((0, 1),),)),
        ((2, ((0, 1),)), ("01",)), ((2, ((0, 1),)), (("0", "1"),)), ((2, ((0, 1),)), ((0, THIRTY),)),
        ((2, ((0, 1),)), ((-THIRTY, 0),)), ((2, ((0, 1),)), ((0, 1),), ()), (((0, 1),), (2, ((0, 1),))),
        ((15, ((0, 1),)), ((0, 1),)), ((1, ((0, 1),)), ((0, 1),)), (None, ((0, 1),)), ((), ((0, 1),)),
        ("2: 0-1", ((0, 1),)), ((0, ()), ((0, 1),)), ((2, ()), ((0, 1),)), ((3, ((0, 1),)), ((0, 2),)),
        ((2, ((0, 1),)), nested((0, 1), 11)), ((2, ((0, 1),)), (nested(0, 10),)), (nested(2, 11), ((0, 1),)),
        ((2, ((0, 1),)), ((0, nested(1, 9)),)), ((2, ((0, 1),)), (({}, 1),)), ((2, ((0, 1),)), {(0, 1)}),
        [[2, [[0, 1]]], [[0, 1]]],
    ]


class RootHolds(unittest.TestCase):
    def test_told_by_hand(self):
        self.assertIs(root_holds(bare(1), ((2, ((0, 1),)), ((0, 1),))), True)
        self.assertIs(root_holds(row(2), ((3, ((0, 1), (0, 2))), ((0, 1), (0, 2)))), True)
        self.assertIs(root_holds(row(2), ((3, ((0, 1), (0, 2))), ((0, 2), (0, 1)))), True)
        self.assertIs(root_holds(row(2), ((3, ((0, 1), (1, 2))), ((1, 2), (0, 1)))), True)
        self.assertIs(root_holds(row(2), ((4, ((0, 1), (2, 3))), ((0, 1), (2, 3)))), False)
        self.assertIs(root_holds(bare(2), ((4, ((0, 1), (2, 3))), ((0, 1), (2, 3)))), True)
        self.assertIs(root_holds(bare(2), ((3, ((0, 1), (0, 2))), ((0, 1), (0, 2)))), False)
        self.assertIs(root_holds(full(3), (full(3), full(3)[1])), True)
        self.assertIs(root_holds(full(3), (star(4), star(4)[1])), True)
        self.assertIs(root_holds(full(3), (row(4), row(4)[1])), False)
        self.assertIs(root_holds(row(3), (row(4), ((0, 1), (1, 2), (2, 3)))), True)
        self.assertIs(root_holds(row(3), (row(4), ((2, 3), (1, 2), (0, 1)))), True)
        self.assertIs(root_holds(row(3), (row(4), ((1, 2), (0, 1), (2, 3)))), False)

    def test_the_web_without_places(self):
        for many in range(15):
            self.assertIs(root_holds((0, ()), (bare(many), ())), True)
        for thing in [((0, ()), []), ((0, ()), {}), ((0, ()), None), ((0, ()), ""), [(0, ()), ()], ((0, []), ()), (),
                      ((15, ()), ()), ((-1, ()), ()), ((2, ((0, 1),)), ()), ((2, ((0, 1),)), ((0, 1),)), ((0, ()),),
                      ((0, ()), (), ()), ((), ()), (0, ()), None, ((False, ()), ()), ((0, ()), ((),)), ((0, ()), 0)]:
            self.assertIs(root_holds((0, ()), thing), False, thing)

    def test_each_order_of_the_names(self):
        for root in [row(4), star(4), full(3), (4, ((0, 1), (1, 2), (1, 3), (2, 3))), ring(4), full(4), row(6),
                     (5, ((0, 1), (2, 3), (3, 4)))]:
            orders = list(permutations(root[1]))
            webs = {web_named(names) for names in orders}
            for names in orders[::1 if len(orders) < 100 else 37]:
                for web in sorted(webs)[:12] + [web_named(names)]:
                    told = root_holds(web, (root, names))
                    self.assertIs(told, web_named(names) == web, (web, root, names))

    def test_names_of_all_roots(self):
        for many in range(5):
            webs = webs_of(many)
            for names in names_of(many):
                for web in webs:
                    self.assertIs(root_holds(web, (root_named(names), names)), web_named(names) == web, (web, names))

    def test_a_root_under_other_numbers(self):
        for web in SOME_WEBS:
            for paper in papers_of(web):
                many = paper[0][0]
                for step in range(1, 4):
                    places = [(at + step) % many for at in range(many)]
                    self.assertIs(root_holds(web, turned(paper, places)), True, (web, paper))
                    self.assertIs(root_holds(web, turned(paper, places[::-1])), True, (web, paper))

    def test_a_root_with_more_places(self):
        for web in SOME_WEBS + [bare(0), bare(3), bare(7)]:
            for root, names in papers_of(web):
                for many in range(root[0], 15):
                    self.assertIs(root_holds(web, ((many, root[1]), names)), True, (web, many))
                self.assertIs(root_holds(web, ((15, root[1]), names)), False)
                if names:
                    self.assertIs(root_holds(web, ((root[0] - 1, root[1]), names)), False)

    def test_fourteen_places_of_a_root(self):
        ties = tuple([(at, 13 - at) for at in range(7)])
        self.assertIs(root_holds(bare(7), ((14, ties), ties)), True)
        self.assertIs(root_holds(bare(7), ((14, ties), ties[::-1])), True)
        ends = tuple([(at, 13) for at in range(6, 13)])
        self.assertIs(root_holds(full(7), ((14, ends), ends)), True)
        self.assertIs(root_holds(full(7), ((14, ties), ties)), False)

    def test_a_name_another_one(self):
        for web in SOME_WEBS:
            for root, names in papers_of(web):
                for at, name in enumerate(names):
                    for other in full(root[0])[1]:
                        if other != name:
                            changed = names[:at] + (other,) + names[at + 1:]
                            self.assertIs(root_holds(web, (root, changed)), False, (web, root, changed))

    def test_a_name_and_its_tie_another_one(self):
        for web in (row(3), KITE, BOW, NET, beside(BOW, bare(2))):
            for root, names in papers_of(web):
                for at, name in enumerate(names):
                    for other in full(root[0])[1]:
                        if other not in names:
                            changed = names[:at] + (other,) + names[at + 1:]
                            told = root_holds(web, ((root[0], tuple(sorted(changed))), changed))
                            self.assertIs(told, web_named(changed) == web, (web, changed))

    def test_a_name_twice(self):
        for web in SOME_WEBS:
            for root, names in papers_of(web):
                for one, other in permutations(range(len(names)), 2):
                    changed = names[:one] + (names[other],) + names[one + 1:]
                    self.assertIs(root_holds(web, (root, changed)), False)
                    fewer = (root[0], tuple(sorted(set(changed))))
                    self.assertIs(root_holds(web, (fewer, changed)), False)
                    more = (root[0], tuple(sorted(changed)))
                    self.assertIs(root_holds(web, (more, changed)), False)

    def test_a_name_turned_about(self):
        for web in SOME_WEBS:
            for root, names in papers_of(web):
                for at, (a, b) in enumerate(names):
                    for thing in ((b, a), [a, b], (a,), (a, b, b), {a: b}, {a, b}, f"{a}{b}", None, a, ((a, b),),
                                  (str(a), str(b)), (float(a), b), (a, a), (b, b), (), (a, -b), (a, b + 99)):
                        changed = names[:at] + (thing,) + names[at + 1:]
                        self.assertIs(root_holds(web, (root, changed)), False, (web, root, changed))

    def test_a_name_out_or_too_many(self):
        for web in SOME_WEBS:
            for root, names in papers_of(web):
                for at in range(len(names)):
                    fewer = names[:at] + names[at + 1:]
                    self.assertIs(root_holds(web, (root, fewer)), False)
                    self.assertIs(root_holds(web, ((root[0], tuple(sorted(fewer))), fewer)), False)
                    self.assertIs(root_holds(web, (root, names + (names[at],))), False)
                for more in ((0, root[0]), (root[0], root[0] + 1)):
                    added = names + (more,)
                    self.assertIs(root_holds(web, (root_named(added), added)), False)
                    self.assertIs(root_holds(web, (root_named(added), names)), False)
                self.assertIs(root_holds(web, (root, ())), False)

    def test_two_names_exchanged(self):
        for web in SOME_WEBS:
            for root, names in papers_of(web):
                for one, other in combinations(range(len(names)), 2):
                    changed = list(names)
                    changed[one], changed[other] = changed[other], changed[one]
                    told = root_holds(web, (root, tuple(changed)))
                    self.assertIs(told, web_named(changed) == web, (web, root, changed))

    def test_a_tie_of_the_root_that_no_name_has(self):
        for web in SOME_WEBS:
            for root, names in papers_of(web):
                for tie in full(root[0])[1]:
                    if tie not in root[1]:
                        more = (root[0], tuple(sorted(root[1] + (tie,))))
                        self.assertIs(root_holds(web, (more, names)), False, (web, more, names))
                for tie in root[1]:
                    self.assertIs(root_holds(web, (without(root, tie), names)), False)

    def test_a_root_that_is_no_web(self):
        for web in SOME_WEBS:
            for (many, ties), names in papers_of(web):
                for root in ((many, list(ties)), [many, ties], (many, ties[::-1]), (many, ties + ties),
                             (many, ties, ()), (many, tuple([(b, a) for a, b in ties])),
                             (many, tuple(map(list, ties))), (many, dict.fromkeys(ties)), (many, set(ties)),
                             (15, ties), (float(many), ties), (str(many), ties), (None, ties), (-many, ties),
                             (many,), ties, many, (), None, {many: ties}):
                    self.assertIs(root_holds(web, (root, names)), False, (web, root, names))

    def test_lists_in_the_tuples_stead(self):
        for web in SOME_WEBS:
            for root, names in papers_of(web):
                for thing in ([root, names], (root, list(names)), (root, tuple(map(list, names))), (names, root),
                              (root, dict.fromkeys(names)), (root, dict(enumerate(names))), (root, set(names)),
                              {root: names}, (root,), (root, names, names), ((root, names),), [(root, names)],
                              str((root, names)), root, names, (root, root), (names, names), (root, None)):
                    self.assertIs(root_holds(web, thing), False, (web, thing))

    def test_truths_in_the_numbers_stead(self):
        self.assertIs(root_holds(bare(1), ((2, ((0, 1),)), ((False, True),))), False)
        self.assertIs(root_holds(bare(1), ((2, ((False, True),)), ((0, 1),))), False)
        self.assertIs(root_holds(row(2), ((3, ((0, 1), (0, 2))), ((0, True), (0, 2)))), False)
        self.assertIs(root_holds(row(2), ((3, ((0, 1), (1, 2))), ((0, 1), (True, 2)))), False)
        self.assertIs(root_holds(row(2), ((3, ((0, 1), (0, 2))), ((False, 1), (0, 2)))), False)

    def test_what_is_no_root_paper_of_any_kind(self):
        for web in (bare(1), row(2), bare(2), full(3), star(4), full(7)):
            for thing in no_papers():
                with self.subTest(web=web, thing=thing):
                    self.assertIs(root_holds(web, thing), False)

    def test_things_that_do_not_compare(self):
        for names in [((0, 1), None), (None, (0, 1)), ((0, 1), "02"), ((0, 1), [0, 2]), ((0, 1), (0, None)),
                      ((0, 1), (0, "2")), ((0, 1), ({}, 2)), ((0, 1), 2), ({}, {}), ((0, 1), (0, (2,)))]:
            self.assertIs(root_holds(row(2), ((3, ((0, 1), (0, 2))), names)), False, names)

    def test_too_great(self):
        for thing in (((0, ()), ()), None, (), [], (row(9), row(9)[1]), (row(10), row(10)[1])):
            check_too_many_places(self, lambda web, thing=thing: root_holds(web, thing), 7)

    def test_no_web_goes_ahead(self):
        for thing in (((0, ()), ()), None, (), ((2, ((0, 1),)), ((0, 1),))):
            check_no_web(self, lambda web, thing=thing: root_holds(web, thing))

    def test_nothing_handed_in_is_changed(self):
        for thing in [[[2, [[0, 1]]], [[0, 1]]], ((3, [(0, 2), (0, 1)]), [(0, 2), (0, 1)]), (row(3), [(1, 2), (0, 1)]),
                      (row(3), ([1, 0], [2, 1])), {0: [1]}] + odd_things():
            before = deepcopy(thing)
            root_holds(row(2), thing)
            self.assertEqual(thing, before)

    def test_what_is_done_later_counts_anew(self):
        names = [(0, 1), (1, 2)]
        self.assertIs(root_holds(row(2), (row(3), tuple(names))), True)
        self.assertIs(root_holds(row(2), (row(3), names)), False)
        names[0] = (1, 2)
        self.assertIs(root_holds(row(2), (row(3), tuple(names))), False)
        self.assertIs(root_holds(row(2), (row(3), ((0, 1), (1, 2)))), True)


class SomeRoot(unittest.TestCase):
    def test_none_where_there_is_none(self):
        for web in (star(4), star(7), WHEEL_OF_FIVE, without(full(5), (3, 4)), beside(star(4), full(3)),
                    beside(full(3), star(4)), (7, star(4)[1]), without(full(7), (0, 1))):
            self.assertIsNone(some_root(web), web)

    def check(self, web):
        """What is told is a root paper, and by another way of looking too; there is one just where a sharing is."""
        told = some_root(web)
        self.assertEqual(told is None, all_sharings(web) == [], web)
        if told is not None:
            self.assertIs(type(told), tuple)
            root, names = told
            self.assertIs(root_holds(web, told), True, web)
            self.assertEqual(tie_web(root), moved(web, [root[1].index(name) for name in names]), web)
            self.assertEqual(web_named(names), web)
        return told

    def test_webs_that_have_one(self):
        for web in SOME_WEBS + [bare(many) for many in range(8)]:
            self.assertIsNotNone(self.check(web), web)

    def test_all_webs_of_few_places(self):
        for many in range(6):
            named = {web_named(names) for names in names_of(many)}
            for web in webs_of(many):
                self.assertEqual(self.check(web) is not None, web in named, web)

    def test_webs_of_six_places(self):
        named = {web_named(names) for names in names_of(6)}
        for web in webs_of(6)[::7] + sorted(named)[::11]:
            self.assertEqual(self.check(web) is not None, web in named, web)

    def test_webs_of_seven_places(self):
        for names in list(names_of(5))[::29]:
            for more in (((0, 20), (20, 21)), ((19, 20), (21, 22)), ((18, 19), (0, 1))):
                both = names + more
                if len(set(both)) == 7:
                    self.assertIsNotNone(self.check(web_named(both)), both)

    def test_tie_webs_have_one(self):
        for root in [web for web in webs_of(5) if len(web[1]) <= 7][::3] + [row(8), star(8), ring(7)]:
            self.assertIsNotNone(self.check(tie_web(root)), root)

    def test_too_great(self):
        check_too_many_places(self, some_root, 7)

    def test_no_web(self):
        check_no_web(self, some_root)

    def test_the_same_again(self):
        for web in SOME_WEBS + [star(4), bare(0)]:
            told = some_root(web)
            with self.assertRaises(TooGreat):
                some_root(full(8))
            for sharing in all_sharings(web):
                sharing.clear()
            self.assertEqual(some_root(web), told)


class SharedBy(unittest.TestCase):
    def test_told_by_hand(self):
        self.assertEqual(shared_by(row(2), ((3, ((0, 1), (1, 2))), ((1, 2), (0, 1)))), [(0, 1)])
        self.assertEqual(shared_by(full(3), (full(3), ((1, 2), (0, 1), (0, 2)))), [(0, 1), (0, 2), (1, 2)])
        self.assertEqual(shared_by(full(3), (star(4), ((0, 3), (0, 1), (0, 2)))), [(0, 1, 2)])
        self.assertEqual(shared_by(row(3), (row(4), ((2, 3), (1, 2), (0, 1)))), [(0, 1), (1, 2)])
        root = (6, ((0, 5), (1, 5), (2, 3), (2, 4), (2, 5)))
        self.assertEqual(shared_by(BOW, (root, ((2, 3), (2, 4), (2, 5), (0, 5), (1, 5)))), [(0, 1, 2), (2, 3, 4)])
        self.assertEqual(shared_by(BOW, (root, ((1, 5), (0, 5), (2, 5), (2, 3), (2, 4)))), [(0, 1, 2), (2, 3, 4)])

    def test_webs_without_ties(self):
        for many in range(8):
            ties = tuple([(2 * at, 2 * at + 1) for at in range(many)])
            for places in range(2 * many, 15):
                self.assertEqual(shared_by(bare(many), ((places, ties), ties)), [])

    def test_the_sharing_that_made_the_root(self):
        for many in range(6):
            for web in webs_of(many):
                for sharing in all_sharings(web):
                    self.assertEqual(shared_by(web, root_by(web, sharing)), sharing, web)

    def test_the_same_under_other_numbers_of_the_root(self):
        for web in SOME_WEBS:
            for sharing in all_sharings(web):
                (many, ties), names = root_by(web, sharing)
                more = ((14, ties), names)
                self.assertEqual(shared_by(web, more), sharing)
                for step in (1, 3, 5, 9, 11, 13):
                    places = [(at * step + 4) % 14 for at in range(14)]
                    self.assertEqual(shared_by(web, turned(more, places)), sharing, (web, sharing, step))

    def test_names_of_all_roots(self):
        for many in range(6):
            for names in names_of(many):
                web = web_named(names)
                told = shared_by(web, (root_named(names), names))
                self.assertIs(type(told), list)
                self.assertIs(is_sharing(web, told), True, names)
                ends = sorted({end for name in names for end in name})
                groups = [tuple([place for place in range(many) if end in names[place]]) for end in ends]
                self.assertEqual(told, sorted([group for group in groups if len(group) > 1]), names)

    def test_the_sharing_of_some_root(self):
        for web in SOME_WEBS + webs_of(6)[::97]:
            paper = some_root(web)
            if paper is not None:
                self.assertIn(shared_by(web, paper), all_sharings(web))

    def test_what_is_no_root_paper_is_refused(self):
        for web in (bare(1), row(2), bare(2), full(3), star(4), full(7)):
            for thing in no_papers():
                with self.subTest(web=web, thing=thing), self.assertRaises(NoRoot):
                    shared_by(web, thing)

    def test_root_papers_of_other_webs_are_refused(self):
        for web in webs_of(4):
            for other in webs_of(4):
                if other != web:
                    for paper in papers_of(other):
                        with self.assertRaises(NoRoot):
                            shared_by(web, paper)

    def test_faults_of_root_papers_are_refused(self):
        root, names = row(4), ((0, 1), (1, 2), (2, 3))
        for paper in [(root, names[:2]), (root, names + ((0, 3),)), (root, ((0, 1), (1, 2), (1, 2))), (ring(4), names),
                      (root, ((1, 0), (1, 2), (2, 3))), (root, ((1, 2), (0, 1), (2, 3))), (root, list(names)),
                      [root, names], (root, ([0, 1], [1, 2], [2, 3])), ((4, names[::-1]), names), (root, names, names)]:
            with self.subTest(paper=paper), self.assertRaises(NoRoot):
                shared_by(row(3), paper)

    def test_too_great_goes_ahead(self):
        for thing in (((0, ()), ()), None, (), [], (row(9), row(9)[1]), "a"):
            check_too_many_places(self, lambda web, thing=thing: shared_by(web, thing), 7)

    def test_no_web_goes_ahead(self):
        for thing in (((0, ()), ()), None, (), ((2, ((0, 1),)), ((0, 1),))):
            check_no_web(self, lambda web, thing=thing: shared_by(web, thing))

    def test_the_list_is_the_askers_own(self):
        for web in SOME_WEBS + [bare(0), bare(7)]:
            paper = some_root(web)
            told, before = shared_by(web, paper), shared_by(web, paper)
            self.assertIsNot(told, before)
            told.append((0, 9))
            told[0] = None
            with self.assertRaises(NoRoot):
                shared_by(web, None)
            self.assertEqual(shared_by(web, paper), before)
            self.assertIn(before, all_sharings(web))


if __name__ == "__main__":
    unittest.main()
