import unittest
from copy import deepcopy
from itertools import combinations, permutations

from helper import (BARRED, BOW, EIGHT_SIDED, KITE, NET, THIRTY, WHEEL_OF_FIVE, WHEEL_OF_FOUR, bare, beside,
                    check_no_web, check_too_many_places, foreign_things, full, moved, named_webs, nested, odd_things,
                    one_of_each_kind, part_of, ring, row, scattered, star, web_named, webs_of, without)
from tiewebs.bars import all_bars, claws, is_bar, least_bar, odd_pair, odd_threes, what_bars
from tiewebs.errors import TooGreat
from tiewebs.roots import root_holds, some_root
from tiewebs.sharings import all_sharings, is_sharing
from tiewebs.ties import tie_web

# All tie webs of so many places, by going through the names of all roots.
TIE_WEBS = [named_webs(many) for many in range(7)]

# Three bars of four places, and no other ones.
SEVERAL = (7, ((0, 4), (1, 4), (2, 3), (3, 4), (3, 5), (3, 6), (5, 6)))
# Three bars of four places, and one of five, which goes ahead of them as tuples compare.
MIXED = (7, ((0, 1), (0, 2), (0, 3), (0, 4), (1, 2), (1, 3), (1, 4), (2, 3), (2, 4), (4, 5), (4, 6)))


def parts(many):
    """All rising tuples of so many places."""
    return [some for size in range(many + 1) for some in combinations(range(many), size)]


def is_bar_by_names(web, some):
    """Whether some places are a bar: by the names of all roots. Of seven places there is none, as is well known."""
    if len(some) > 6 or part_of(web, some) in TIE_WEBS[len(some)]:
        return False
    return all(part_of(web, fewer) in TIE_WEBS[len(fewer)] for fewer in combinations(some, len(some) - 1) if some)


def bars_by_names(web):
    return sorted([some for some in parts(web[0]) if is_bar_by_names(web, some)])


def neighbours(web):
    """For each place the set of those tied to it."""
    found = [set() for place in range(web[0])]
    for a, b in web[1]:
        found[a].add(b)
        found[b].add(a)
    return found


def claws_by_sets(web):
    beside_it = neighbours(web)
    return [(a, *some) for a in range(web[0]) for some in combinations(range(web[0]), 3)
            if set(some) <= beside_it[a] and not any(c in beside_it[b] for b, c in combinations(some, 2))]


def odd_by_sets(web):
    beside_it = neighbours(web)
    found = []
    for some in combinations(range(web[0]), 3):
        if all(c in beside_it[b] for b, c in combinations(some, 2)):
            others = set(range(web[0])) - set(some)
            if {len(beside_it[other] & set(some)) for other in others} & {1, 3}:
                found.append(some)
    return found


def odd_pairs_by_sets(web):
    beside_it = neighbours(web)
    found = []
    for one, other in permutations(odd_by_sets(web), 2):
        if one < other and len(set(one) & set(other)) == 2:
            low, high = set(one) ^ set(other)
            if low not in beside_it[high]:
                found.append((one, other))
    return sorted(found)


def many_webs():
    """Webs of none to fourteen places of many sorts."""
    found = [web for many in range(5) for web in webs_of(many)] + webs_of(5)[::7] + webs_of(6)[::211]
    for many in range(7, 15):
        found.extend([bare(many), row(many), ring(many), star(many), full(many), without(full(many), (1, 5))])
        for eighths in range(1, 8):
            found.extend(scattered(many, 2, eighths))
    return found + [KITE, BOW, NET, EIGHT_SIDED, WHEEL_OF_FOUR, WHEEL_OF_FIVE, *BARRED]


def great_tie_webs():
    """Tie webs of eight to fourteen places, made by the names of their roots."""
    names = [full(5)[1], full(6)[1][:14], full(6)[1][1:], star(10)[1], ring(14)[1], row(15)[1], row(9)[1],
             EIGHT_SIDED[1], WHEEL_OF_FOUR[1], WHEEL_OF_FIVE[1], tuple([(a, b) for a in (0, 1) for b in range(2, 9)]),
             beside(full(4), full(5))[1][:14], beside(star(5), beside(full(4), ring(4)))[1]]
    return [web_named(some) for some in names]


class IsBar(unittest.TestCase):
    def test_told_by_hand(self):
        self.assertIs(is_bar(star(4), (0, 1, 2, 3)), True)
        self.assertIs(is_bar(star(5), (0, 1, 2, 4)), True)
        self.assertIs(is_bar(star(5), (0, 1, 2, 3, 4)), False)
        self.assertIs(is_bar(star(5), (1, 2, 3, 4)), False)
        self.assertIs(is_bar(WHEEL_OF_FIVE, (0, 1, 2, 3, 4, 5)), True)
        self.assertIs(is_bar(WHEEL_OF_FIVE, (0, 1, 2, 3, 4)), False)
        self.assertIs(is_bar(without(full(5), (3, 4)), (0, 1, 2, 3, 4)), True)
        self.assertIs(is_bar(full(5), (0, 1, 2, 3, 4)), False)

    def test_bars_of_four_five_and_six_places(self):
        for web in BARRED:
            some = tuple(range(web[0]))
            self.assertIs(is_bar(web, some), True, web)
            self.assertIs(is_bar(moved(web, some[::-1]), some), True, web)
            more = beside(web, bare(7 - web[0]))
            self.assertIs(is_bar(more, some), True, web)
            behind = beside(bare(7 - web[0]), web)
            self.assertIs(is_bar(behind, tuple(range(7 - web[0], 7))), True, web)

    def test_these_are_all_kinds_of_bars(self):
        for many in range(7):
            whole = tuple(range(many))
            for web in one_of_each_kind(many):
                like = any(moved(other, places) == web for other in BARRED if other[0] == many
                           for places in permutations(range(many)))
                self.assertIs(is_bar(web, whole), like, web)

    def test_webs_without_bars(self):
        for web in (bare(7), full(7), ring(7), row(7), KITE, BOW, NET, EIGHT_SIDED, WHEEL_OF_FOUR):
            for some in parts(web[0]):
                self.assertIs(is_bar(web, some), False, (web, some))

    def test_the_web_without_places(self):
        for thing in [()] + odd_things():
            self.assertIs(is_bar((0, ()), thing), False, thing)

    def test_all_parts_of_webs_of_few_places(self):
        for many in range(5):
            for web in webs_of(many):
                for some in parts(many):
                    self.assertIs(is_bar(web, some), is_bar_by_names(web, some), (web, some))

    def test_a_place_out(self):
        for web in BARRED:
            some = tuple(range(web[0]))
            for at in some:
                self.assertIs(is_bar(web, some[:at] + some[at + 1:]), False, (web, at))

    def test_one_more(self):
        for web in BARRED:
            some = tuple(range(web[0]))
            for more in (beside(web, bare(1)), (web[0] + 1, web[1] + tuple([(at, web[0]) for at in some]))):
                self.assertIs(is_bar((more[0], tuple(sorted(more[1]))), some + (web[0],)), False, web)
            self.assertIs(is_bar(web, some + (web[0],)), False, web)
            self.assertIs(is_bar(web, (-1,) + some), False, web)

    def test_another_one(self):
        for web in BARRED:
            some = tuple(range(web[0]))
            # The one more is tied to none, so that it is in no bar.
            more = beside(web, bare(1))
            for at in some:
                self.assertIs(is_bar(more, some[:at] + some[at + 1:] + (web[0],)), False, (web, at))
                self.assertIs(is_bar(web, some[:at] + some[at + 1:] + (web[0],)), False, (web, at))
        self.assertIs(is_bar(star(5), (0, 1, 3, 4)), True)

    def test_twice(self):
        for web in BARRED:
            some = tuple(range(web[0]))
            for at in some:
                self.assertIs(is_bar(web, some[:at] + (at,) + some[at:]), False)
                self.assertIs(is_bar(web, some + (at,)), False)
                self.assertIs(is_bar(web, some[:at] + (some[at - 1],) + some[at + 1:]), False)
            self.assertIs(is_bar(web, some + some), False)

    def test_turned_about(self):
        for web in BARRED:
            some = tuple(range(web[0]))
            for places in permutations(some):
                self.assertIs(is_bar(web, places), places == some)

    def test_things_of_other_kinds(self):
        for web in BARRED:
            some = tuple(range(web[0]))
            for thing in [list(some), dict(enumerate(some)), set(some), frozenset(some), "".join(map(str, some)),
                          some[0], range(web[0]), (some,), [some], (list(some),), tuple([(at,) for at in some]),
                          tuple(map(str, some)), tuple(map(float, some)), (False,) + some[1:], (0, True) + some[2:],
                          (False, True) + some[2:], some[:-1] + (None,), some[:-1] + (str(some[-1]),),
                          some[:-1] + ([some[-1]],), some[:-1] + ({},), some[:-1] + (THIRTY,), (-THIRTY,) + some[1:],
                          (None,) + some[1:], ("",) + some[1:], some[:2] + (nested(2, 11),) + some[3:],
                          nested(some, 11)]:
                self.assertIs(is_bar(web, thing), False, (web, thing))

    def test_what_is_no_bar_of_any_kind(self):
        for thing in odd_things() + foreign_things() + [0, 1, 4, (), (0,), (0, 1), (0, 1, 2)]:
            for web in (star(4), star(7), WHEEL_OF_FIVE, bare(7), full(7)):
                with self.subTest(web=web, thing=thing):
                    self.assertIs(is_bar(web, thing), False)

    def test_seven_places(self):
        for web in [SEVERAL, MIXED, star(7), without(full(7), (0, 1))] + scattered(7, 6, 4):
            for some in parts(7):
                self.assertIs(is_bar(web, some), is_bar_by_names(web, some), (web, some))

    def test_too_great(self):
        for thing in ((), (0, 1, 2, 3), None, [0], "a", tuple(range(14))):
            check_too_many_places(self, lambda web, thing=thing: is_bar(web, thing), 7)

    def test_no_web_goes_ahead(self):
        for thing in ((), (0, 1, 2, 3), None):
            check_no_web(self, lambda web, thing=thing: is_bar(web, thing))

    def test_nothing_handed_in_is_changed(self):
        for thing in odd_things() + [[0, 1, 2, 3], ([0], 1, 2, 3), {0: 1}]:
            before = deepcopy(thing)
            is_bar(star(4), thing)
            self.assertEqual(thing, before)

    def test_what_is_done_later_counts_anew(self):
        places = [0, 1, 2, 3]
        self.assertIs(is_bar(star(5), tuple(places)), True)
        self.assertIs(is_bar(star(5), places), False)
        places[0] = 4
        self.assertIs(is_bar(star(5), tuple(places)), False)
        self.assertIs(is_bar(star(5), (0, 1, 2, 3)), True)


class AllBars(unittest.TestCase):
    def test_told_by_hand(self):
        self.assertEqual(all_bars(star(4)), [(0, 1, 2, 3)])
        self.assertEqual(all_bars(star(5)), [(0, 1, 2, 3), (0, 1, 2, 4), (0, 1, 3, 4), (0, 2, 3, 4)])
        self.assertEqual(all_bars(WHEEL_OF_FIVE), [(0, 1, 2, 3, 4, 5)])
        self.assertEqual(all_bars(SEVERAL), [(0, 1, 3, 4), (2, 3, 4, 5), (2, 3, 4, 6)])

    def test_in_order(self):
        told = all_bars(MIXED)
        self.assertEqual(told, [(0, 1, 2, 3, 4), (0, 4, 5, 6), (1, 4, 5, 6), (2, 4, 5, 6)])

    def test_webs_without_bars(self):
        for web in [bare(many) for many in range(8)] + [full(many) for many in range(8)] + [
                KITE, BOW, NET, EIGHT_SIDED, WHEEL_OF_FOUR, ring(7), row(7), beside(full(3), KITE)]:
            told = all_bars(web)
            self.assertEqual(told, [])
            self.assertIs(type(told), list)

    def test_all_webs_of_few_places(self):
        for many in range(5):
            for web in webs_of(many):
                self.assertEqual(all_bars(web), bars_by_names(web), web)

    def test_webs_of_five_and_six_places(self):
        for web in webs_of(5)[::5] + one_of_each_kind(6) + webs_of(6)[::173]:
            self.assertEqual(all_bars(web), bars_by_names(web), web)

    def test_webs_of_seven_places(self):
        webs = [star(7), MIXED, SEVERAL, without(full(7), (5, 6)), (7, star(4)[1]), beside(bare(3), star(4))]
        for web in webs + [web for eighths in range(1, 8) for web in scattered(7, 4, eighths)]:
            self.assertEqual(all_bars(web), bars_by_names(web), web)

    def test_a_web_is_a_tie_web_just_where_it_has_no_bar(self):
        for web in webs_of(4) + webs_of(5)[::3] + webs_of(6)[::97] + scattered(7, 20, 3) + scattered(7, 20, 6):
            self.assertIs(all_bars(web) == [], all_sharings(web) != [], web)
            self.assertIs(all_bars(web) == [], some_root(web) is not None, web)

    def test_each_of_them_is_one(self):
        for web in [MIXED, SEVERAL, star(7)] + scattered(7, 10, 4):
            told = all_bars(web)
            self.assertEqual(told, [some for some in sorted(parts(7)) if is_bar(web, some)])
            for some in told:
                self.assertIs(type(some), tuple)

    def test_too_great(self):
        check_too_many_places(self, all_bars, 7)

    def test_no_web(self):
        check_no_web(self, all_bars)

    def test_the_list_is_the_askers_own(self):
        for web in (MIXED, star(5), bare(0), full(7)):
            told, before = all_bars(web), all_bars(web)
            self.assertIsNot(told, before)
            told.append(None)
            told[0] = (0,)
            with self.assertRaises(TooGreat):
                all_bars(bare(8))
            self.assertEqual(all_bars(web), before)


class LeastBar(unittest.TestCase):
    def test_told_by_hand(self):
        self.assertEqual(least_bar(star(4)), (0, 1, 2, 3))
        self.assertEqual(least_bar(star(7)), (0, 1, 2, 3))
        self.assertEqual(least_bar(WHEEL_OF_FIVE), (0, 1, 2, 3, 4, 5))
        self.assertEqual(least_bar(without(full(5), (3, 4))), (0, 1, 2, 3, 4))

    def test_the_fewest_places_go_ahead_of_the_first(self):
        self.assertEqual(all_bars(MIXED)[0], (0, 1, 2, 3, 4))
        self.assertEqual(least_bar(MIXED), (0, 4, 5, 6))

    def test_the_first_of_as_many_places(self):
        self.assertEqual(least_bar(SEVERAL), (0, 1, 3, 4))
        self.assertEqual(least_bar(moved(SEVERAL, (6, 5, 4, 3, 2, 1, 0))), (0, 2, 3, 4))
        self.assertEqual(least_bar(without(full(7), (2, 5))), (0, 1, 2, 3, 5))

    def test_none(self):
        for web in [bare(many) for many in range(8)] + [full(many) for many in range(8)] + [
                KITE, BOW, NET, EIGHT_SIDED, WHEEL_OF_FOUR, ring(7), row(7)]:
            self.assertIsNone(least_bar(web), web)

    def check(self, web):
        bars = bars_by_names(web)
        told = least_bar(web)
        if bars:
            self.assertEqual(told, sorted(bars, key=lambda some: (len(some), some))[0], web)
            self.assertIs(type(told), tuple)
        else:
            self.assertIsNone(told, web)

    def test_all_webs_of_few_places(self):
        for many in range(5):
            for web in webs_of(many):
                self.check(web)

    def test_webs_of_five_to_seven_places(self):
        for web in webs_of(5)[::3] + one_of_each_kind(6) + webs_of(6)[::131]:
            self.check(web)
        for web in [web for eighths in range(1, 8) for web in scattered(7, 6, eighths)]:
            self.check(web)

    def test_too_great(self):
        check_too_many_places(self, least_bar, 7)

    def test_no_web(self):
        check_no_web(self, least_bar)

    def test_the_same_again(self):
        for web in (MIXED, full(7)):
            told = least_bar(web)
            with self.assertRaises(TooGreat):
                least_bar(star(8))
            self.assertEqual(least_bar(web), told)


class Claws(unittest.TestCase):
    def test_told_by_hand(self):
        self.assertEqual(claws(star(4)), [(0, 1, 2, 3)])
        self.assertEqual(claws((4, ((0, 3), (1, 3), (2, 3)))), [(3, 0, 1, 2)])
        self.assertEqual(claws(star(5)), [(0, 1, 2, 3), (0, 1, 2, 4), (0, 1, 3, 4), (0, 2, 3, 4)])
        self.assertEqual(claws(SEVERAL), [(3, 2, 4, 5), (3, 2, 4, 6), (4, 0, 1, 3)])
        self.assertEqual(claws(NET), [])
        self.assertEqual(claws(WHEEL_OF_FIVE), [])

    def test_two_of_the_three_tied(self):
        for tie in ((1, 2), (1, 3), (2, 3)):
            self.assertEqual(claws((4, tuple(sorted(star(4)[1] + (tie,))))), [])

    def test_no_places_and_few(self):
        for many in range(4):
            for web in webs_of(many):
                told = claws(web)
                self.assertEqual(told, [])
                self.assertIs(type(told), list)

    def test_fourteen_places(self):
        self.assertEqual(claws(star(14)), [(0, *some) for some in combinations(range(1, 14), 3)])
        behind = moved(star(14), (13, *range(13)))
        self.assertEqual(claws(behind), [(13, *some) for some in combinations(range(13), 3)])
        self.assertEqual(claws(full(14)), [])
        self.assertEqual(claws(bare(14)), [])
        self.assertEqual(claws(beside(full(10), star(4))), [(10, 11, 12, 13)])
        halves = (14, tuple([(a, b) for a in range(7) for b in range(7, 14)]))
        self.assertEqual(claws(halves), [(a, *some) for a in range(7) for some in combinations(range(7, 14), 3)]
                         + [(a, *some) for a in range(7, 14) for some in combinations(range(7), 3)])

    def test_webs_of_many_sorts(self):
        for web in many_webs():
            self.assertEqual(claws(web), claws_by_sets(web), web)

    def test_no_web(self):
        check_no_web(self, claws)

    def test_the_list_is_the_askers_own(self):
        for web in (star(5), bare(0), full(14)):
            told, before = claws(web), claws(web)
            told.append(None)
            told[0] = None
            self.assertEqual(claws(web), before)
        for claw in claws(star(14)):
            self.assertIs(type(claw), tuple)


class OddThrees(unittest.TestCase):
    def test_a_place_tied_to_just_so_many_of_the_three(self):
        for many in range(4):
            for some in combinations(range(3), many):
                web = (4, tuple(sorted(full(3)[1] + tuple([(place, 3) for place in some]))))
                expected = {0: [], 1: [(0, 1, 2)], 2: [], 3: full_threes(4)}[many]
                self.assertEqual(odd_threes(web), expected, web)

    def test_told_by_hand(self):
        self.assertEqual(odd_threes(full(3)), [])
        self.assertEqual(odd_threes(row(3)), [])
        self.assertEqual(odd_threes(KITE), [])
        self.assertEqual(odd_threes(BOW), [(0, 1, 2), (2, 3, 4)])
        self.assertEqual(odd_threes(NET), [(0, 1, 2)])
        self.assertEqual(odd_threes(WHEEL_OF_FIVE), [(0, 1, 5), (0, 4, 5), (1, 2, 5), (2, 3, 5), (3, 4, 5)])
        self.assertEqual(odd_threes(WHEEL_OF_FOUR), [])
        self.assertEqual(odd_threes(EIGHT_SIDED), [])

    def test_several_places_that_make_none_odd(self):
        # Three more places, each tied to another two of the three.
        web = (6, ((0, 1), (0, 2), (0, 3), (0, 4), (1, 2), (1, 3), (1, 5), (2, 4), (2, 5)))
        self.assertNotIn((0, 1, 2), odd_threes(web))
        self.assertEqual(odd_threes(web), odd_by_sets(web))

    def test_the_last_place_makes_it_odd(self):
        self.assertEqual(odd_threes((14, full(3)[1])), [])
        for place in range(3):
            self.assertEqual(odd_threes((14, tuple(sorted(full(3)[1] + ((place, 13),))))), [(0, 1, 2)])
        last = (14, ((0, 11), (11, 12), (11, 13), (12, 13)))
        self.assertEqual(odd_threes(last), [(11, 12, 13)])

    def test_no_places_and_few(self):
        for many in range(4):
            for web in webs_of(many):
                told = odd_threes(web)
                self.assertEqual(told, [])
                self.assertIs(type(told), list)

    def test_full_webs(self):
        for many in range(4, 15):
            self.assertEqual(odd_threes(full(many)), full_threes(many))

    def test_webs_of_many_sorts(self):
        for web in many_webs():
            self.assertEqual(odd_threes(web), odd_by_sets(web), web)

    def test_no_web(self):
        check_no_web(self, odd_threes)

    def test_the_list_is_the_askers_own(self):
        for web in (BOW, bare(0), full(14)):
            told, before = odd_threes(web), odd_threes(web)
            told.append(None)
            told[0] = None
            self.assertEqual(odd_threes(web), before)
        for three in odd_threes(full(5)):
            self.assertIs(type(three), tuple)


def full_threes(many):
    return list(combinations(range(many), 3))


class OddPair(unittest.TestCase):
    def test_told_by_hand(self):
        self.assertEqual(odd_pair(WHEEL_OF_FIVE), ((0, 1, 5), (0, 4, 5)))
        self.assertEqual(odd_pair(without(full(5), (3, 4))), ((0, 1, 3), (0, 1, 4)))
        self.assertEqual(odd_pair(BARRED[3]), ((0, 1, 2), (0, 1, 3)))

    def test_one_of_the_two_is_not_odd(self):
        # A kite with one more place: of the two threes one alone is odd.
        web = (5, tuple(sorted(KITE[1] + ((0, 4),))))
        self.assertEqual(odd_threes(web), [(0, 1, 2)])
        self.assertIsNone(odd_pair(web))

    def test_the_two_other_places_are_tied(self):
        for many in range(4, 15):
            self.assertIsNone(odd_pair(full(many)))

    def test_one_place_in_common_or_none(self):
        self.assertIsNone(odd_pair(BOW))
        two = (8, tuple(sorted(beside(full(3), full(3))[1] + ((0, 6), (3, 7)))))
        self.assertEqual(odd_threes(two), [(0, 1, 2), (3, 4, 5)])
        self.assertIsNone(odd_pair(two))

    def test_the_first_of_several(self):
        for web in (without(full(5), (0, 1)), without(full(7), (2, 5)), without(full(14), (12, 13)),
                    without(full(14), (0, 1)), without(full(9), (0, 1), (3, 8))):
            pairs = odd_pairs_by_sets(web)
            self.assertGreater(len(pairs), 1)
            self.assertEqual(odd_pair(web), pairs[0], web)
        self.assertEqual(odd_pair(without(full(14), (12, 13))), ((0, 1, 12), (0, 1, 13)))
        self.assertEqual(odd_pair(without(full(14), (0, 1))), ((0, 2, 3), (1, 2, 3)))

    def test_a_pair_beside_a_claw(self):
        web = beside(star(4), without(full(5), (3, 4)))
        self.assertEqual(odd_pair(web), ((4, 5, 7), (4, 5, 8)))

    def test_fourteen_places(self):
        self.assertIsNone(odd_pair(bare(14)))
        self.assertIsNone(odd_pair(star(14)))
        self.assertEqual(odd_pair(beside(full(8), WHEEL_OF_FIVE)), ((8, 9, 13), (8, 12, 13)))

    def test_webs_of_many_sorts(self):
        for web in many_webs():
            pairs = odd_pairs_by_sets(web)
            told = odd_pair(web)
            if pairs:
                self.assertEqual(told, pairs[0], web)
                self.assertEqual([type(told)] + [type(three) for three in told], [tuple] * 3)
            else:
                self.assertIsNone(told, web)

    def test_no_web(self):
        check_no_web(self, odd_pair)

    def test_the_same_again(self):
        for web in (WHEEL_OF_FIVE, full(14)):
            told = odd_pair(web)
            odd_pair(star(4))
            self.assertEqual(odd_pair(web), told)


class WhatBars(unittest.TestCase):
    def test_told_by_hand(self):
        self.assertEqual(what_bars(star(4)), ("claw", (0, 1, 2, 3)))
        self.assertEqual(what_bars(SEVERAL), ("claw", (3, 2, 4, 5)))
        self.assertEqual(what_bars(WHEEL_OF_FIVE), ("threes", ((0, 1, 5), (0, 4, 5))))
        self.assertIsNone(what_bars(full(3)))

    def test_a_claw_goes_ahead_of_a_pair(self):
        pair = without(full(5), (3, 4))
        for web, claw in [(beside(star(4), pair), (0, 1, 2, 3)), (beside(pair, star(4)), (5, 6, 7, 8)),
                          (beside(beside(pair, pair), star(4)), (10, 11, 12, 13))]:
            self.assertIsNotNone(odd_pair(web))
            self.assertEqual(what_bars(web), ("claw", claw))

    def test_a_pair_without_a_claw(self):
        for web in BARRED[1:]:
            self.assertEqual(claws(web), [], web)
            self.assertEqual(what_bars(web), ("threes", odd_pairs_by_sets(web)[0]), web)
            for more in (beside(full(8), web), beside(web, ring(8))):
                self.assertEqual(what_bars(more), ("threes", odd_pairs_by_sets(more)[0]), more)

    def test_none_just_where_there_is_a_sharing_of_webs_of_few_places(self):
        for many in range(6):
            for web in webs_of(many):
                self.assertIs(what_bars(web) is None, web in TIE_WEBS[many], web)
                self.assertIs(what_bars(web) is None, all_sharings(web) != [], web)

    def test_none_just_where_there_is_a_sharing_of_webs_of_six_places(self):
        for web in one_of_each_kind(6) + webs_of(6)[::9]:
            self.assertIs(what_bars(web) is None, web in TIE_WEBS[6], web)
            self.assertIs(what_bars(web) is None, all_sharings(web) != [], web)

    def test_none_just_where_there_is_a_sharing_of_webs_of_seven_places(self):
        for web in [web for eighths in range(1, 8) for web in scattered(7, 40, eighths)]:
            self.assertIs(what_bars(web) is None, all_sharings(web) != [], web)
        for root in [full(5), WHEEL_OF_FOUR, EIGHT_SIDED, NET, full(7), star(8), row(8)]:
            for ties in list(combinations(root[1], 7))[::1 + len(root[1]) ** 2]:
                web = tie_web((root[0], ties))
                self.assertIsNone(what_bars(web), web)
                self.assertNotEqual(all_sharings(web), [], web)

    def test_none_of_tie_webs_of_up_to_fourteen_places(self):
        for web in great_tie_webs():
            self.assertIsNone(what_bars(web), web)

    def test_webs_of_up_to_fourteen_places_with_a_bar_in_them(self):
        for web in BARRED:
            for more in great_tie_webs():
                if web[0] + more[0] <= 14:
                    self.assertIsNotNone(what_bars(beside(web, more)), (web, more))
                    self.assertIsNotNone(what_bars(beside(more, web)), (web, more))

    def test_webs_of_many_sorts(self):
        for web in many_webs():
            found, pairs = claws_by_sets(web), odd_pairs_by_sets(web)
            expected = ("claw", found[0]) if found else ("threes", pairs[0]) if pairs else None
            told = what_bars(web)
            self.assertEqual(told, expected, web)
            self.assertIs(type(told), type(expected))

    def test_each_of_the_three_comes_with_what_shows_it(self):
        for web in webs_of(4) + webs_of(5)[::11] + scattered(7, 30, 3) + [tie_web(NET), tie_web(star(8))]:
            sharings, paper, bar, shown = all_sharings(web), some_root(web), least_bar(web), what_bars(web)
            if bar is None:
                self.assertIs(is_sharing(web, sharings[0]), True)
                self.assertIs(root_holds(web, paper), True)
                self.assertIsNone(shown)
            else:
                self.assertEqual((sharings, paper), ([], None))
                self.assertIs(is_bar(web, bar), True)
                self.assertIsNotNone(shown)

    def test_no_web(self):
        check_no_web(self, what_bars)

    def test_the_same_again(self):
        for web in (SEVERAL, WHEEL_OF_FIVE, full(9)):
            told = what_bars(web)
            what_bars(star(5))
            self.assertEqual(what_bars(web), told)


if __name__ == "__main__":
    unittest.main()
