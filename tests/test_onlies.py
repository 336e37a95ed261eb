import unittest
from copy import deepcopy
from itertools import permutations

from helper import (BARRED, BOW, EIGHT_SIDED, KITE, NET, WHEEL_OF_FIVE, WHEEL_OF_FOUR, bare, beside, check_no_web,
                    check_too_many_places, full, moved, names_of, no_maps_of, no_webs, one_of_each_kind, ring,
                    root_named, row, scattered, star, web_named, webs_of, without)
from tiewebs.errors import NoMap, NotJoined, NoWeb, TooGreat
from tiewebs.maps import map_holds, map_to
from tiewebs.onlies import map_behind, root_kinds, tie_map
from tiewebs.sharings import all_sharings, root_by
from tiewebs.ties import tie_web
from tiewebs.webs import is_web, pieces

# A three with one more place tied to one of them; its tie web is the kite.
PAW = (4, ((0, 1), (0, 2), (1, 2), (2, 3)))


def maps_of(one, other):
    """All maps of the one web to the other, by going through all orders of the places."""
    if one[0] != other[0]:
        return []
    return [places for places in permutations(range(one[0])) if moved(one, places) == other]


def tie_map_by_sets(one, other, places):
    number = {frozenset(tie): at for at, tie in enumerate(other[1])}
    return tuple([number[frozenset((places[a], places[b]))] for a, b in one[1]])


def firsts_behind(one, other):
    """For each tie map that a map of the webs has the first such map."""
    found = {}
    for places in maps_of(one, other):
        found.setdefault(tie_map_by_sets(one, other, places), places)
    return found


def check_too_great(case, ask, many):
    """ask() is refused, of so many and 7."""
    with case.assertRaises(TooGreat) as caught:
        ask()
    case.assertEqual((caught.exception.many, caught.exception.most), (many, 7))


class TieMap(unittest.TestCase):
    def test_told_by_hand(self):
        self.assertEqual(tie_map(row(3), row(3), (2, 1, 0)), (1, 0))
        self.assertEqual(tie_map(row(4), row(4), (3, 2, 1, 0)), (2, 1, 0))
        self.assertEqual(tie_map(star(4), star(4), (0, 2, 3, 1)), (1, 2, 0))
        self.assertEqual(tie_map(full(3), full(3), (1, 2, 0)), (2, 0, 1))
        self.assertEqual(tie_map((4, ((0, 1), (1, 2))), (4, ((0, 3), (2, 3))), (2, 3, 0, 1)), (1, 0))

    def test_it_goes_from_the_one_to_the_other(self):
        one = (5, ((0, 1), (0, 2), (1, 2), (2, 3), (3, 4)))
        places = (4, 2, 0, 3, 1)
        other = moved(one, places)
        self.assertEqual(other, (5, ((0, 2), (0, 3), (0, 4), (1, 3), (2, 4))))
        self.assertEqual(tie_map(one, other, places), (4, 2, 0, 1, 3))

    def test_the_plain_map(self):
        for web in [web for many in range(5) for web in webs_of(many)] + [full(7), ring(7), star(7), WHEEL_OF_FIVE]:
            told = tie_map(web, web, tuple(range(web[0])))
            self.assertEqual(told, tuple(range(len(web[1]))))
            self.assertIs(type(told), tuple)

    def test_webs_without_ties(self):
        for many in range(8):
            for places in list(permutations(range(many)))[::71]:
                self.assertEqual(tie_map(bare(many), bare(many), places), ())

    def test_all_maps_of_webs_of_few_places(self):
        for many in range(5):
            for one in webs_of(many):
                for places in permutations(range(many)):
                    other = moved(one, places)
                    self.assertEqual(tie_map(one, other, places), tie_map_by_sets(one, other, places), (one, places))

    def test_webs_of_seven_places(self):
        for one in [full(7), ring(7), without(full(7), (0, 1), (2, 5))] + scattered(7, 5, 2) + scattered(7, 5, 6):
            for places in [(6, 5, 4, 3, 2, 1, 0), (2, 0, 3, 1, 6, 4, 5), (1, 2, 3, 4, 5, 6, 0)]:
                other = moved(one, places)
                self.assertEqual(tie_map(one, other, places), tie_map_by_sets(one, other, places), (one, places))

    def test_it_is_a_map_of_the_tie_webs(self):
        for one in [row(7), ring(7), star(7), BOW, KITE, NET, full(4)]:
            for places in list(permutations(range(one[0])))[::37]:
                other = moved(one, places)
                told = tie_map(one, other, places)
                self.assertIs(map_holds(tie_web(one), tie_web(other), told), True)

    def test_what_is_no_map_of_any_kind(self):
        for many in (2, 3, 4, 7):
            for web in (bare(many), full(many)):
                for thing in no_maps_of(many):
                    with self.subTest(web=web, thing=thing), self.assertRaises(NoMap):
                        tie_map(web, web, thing)

    def test_the_web_without_places(self):
        self.assertEqual(tie_map((0, ()), (0, ()), ()), ())
        for thing in [(0,), [], {}, "", None, 0, False, ((),)]:
            with self.subTest(thing=thing), self.assertRaises(NoMap):
                tie_map((0, ()), (0, ()), thing)

    def test_orders_of_the_places_that_are_no_maps(self):
        for web in (row(4), KITE, PAW, star(4), (4, ((0, 1),))):
            for places in permutations(range(4)):
                if moved(web, places) != web:
                    with self.subTest(web=web, places=places), self.assertRaises(NoMap):
                        tie_map(web, web, places)

    def test_a_place_out_or_twice_or_another_one(self):
        for web in (full(4), ring(5), bare(6)):
            plain = tuple(range(web[0]))
            for at in plain:
                for places in [plain[:at] + plain[at + 1:], plain[:at] + (at,) + plain[at:], plain + (at,),
                               plain[:at] + (plain[at - 1],) + plain[at + 1:], plain[:at] + (web[0],) + plain[at + 1:],
                               plain[:at] + (-1,) + plain[at + 1:]]:
                    with self.subTest(web=web, places=places), self.assertRaises(NoMap):
                        tie_map(web, web, places)

    def test_webs_that_are_not_alike(self):
        for one, other in [(row(3), full(3)), (full(3), row(3)), (bare(3), row(3)), (row(3), bare(3)),
                           (row(3), row(4)), (bare(2), bare(3)), (row(4), star(4))]:
            for many in range(5):
                for places in permutations(range(many)):
                    with self.subTest(one=one, other=other, places=places), self.assertRaises(NoMap):
                        tie_map(one, other, places)

    def test_too_great(self):
        for many in range(8, 15):
            for one, other in [(bare(many), bare(many)), (full(many), row(3)), (row(3), full(many)),
                               (bare(7), bare(many)), (bare(many), bare(0))]:
                for thing in (tuple(range(many)), (), None, [0]):
                    check_too_great(self, lambda: tie_map(one, other, thing), many)

    def test_too_great_is_told_of_the_first_such_web(self):
        for one, other, many in [(8, 9, 8), (9, 8, 9), (14, 8, 14), (7, 10, 10), (10, 7, 10), (0, 14, 14)]:
            check_too_great(self, lambda: tie_map(bare(one), bare(other), ()), many)

    def test_no_web_goes_ahead(self):
        for thing in no_webs():
            for web in (bare(0), row(3), bare(8), full(14)):
                for places in ((), (0, 1, 2), None):
                    with self.subTest(thing=thing, web=web):
                        with self.assertRaises(NoWeb):
                            tie_map(thing, web, places)
                        with self.assertRaises(NoWeb):
                            tie_map(web, thing, places)

    def test_what_is_refused_is_left_as_it_was(self):
        for thing in [[1, 0], [0, [1]], {0: 1, 1: 0}, ([1], 0)]:
            before = deepcopy(thing)
            with self.assertRaises(NoMap):
                tie_map(row(2), row(2), thing)
            self.assertEqual(thing, before)
        self.assertEqual(tie_map(row(3), row(3), (2, 1, 0)), (1, 0))


class MapBehind(unittest.TestCase):
    def test_told_by_hand(self):
        self.assertEqual(map_behind(row(3), row(3), (1, 0)), (2, 1, 0))
        self.assertEqual(map_behind(row(3), row(3), (0, 1)), (0, 1, 2))
        self.assertEqual(map_behind(star(4), star(4), (1, 2, 0)), (0, 2, 3, 1))
        self.assertEqual(map_behind(full(3), full(3), (2, 0, 1)), (1, 2, 0))
        self.assertEqual(map_behind((4, ((0, 1), (1, 2))), (4, ((0, 3), (2, 3))), (1, 0)), (2, 3, 0, 1))

    def test_the_first_of_several(self):
        self.assertEqual(map_behind(row(2), row(2), (0,)), (0, 1))
        self.assertEqual(map_behind((4, ((2, 3),)), (4, ((0, 1),)), (0,)), (2, 3, 0, 1))
        self.assertEqual(map_behind((4, ((0, 1), (2, 3))), (4, ((0, 1), (2, 3))), (1, 0)), (2, 3, 0, 1))
        self.assertEqual(map_behind((7, ((3, 6),)), (7, ((3, 6),)), (0,)), tuple(range(7)))
        self.assertEqual(map_behind((7, ((1, 5),)), (7, ((2, 4),)), (0,)), (0, 2, 1, 3, 5, 4, 6))

    def test_webs_without_ties(self):
        for one in range(8):
            for other in range(8):
                told = map_behind(bare(one), bare(other), ())
                self.assertEqual(told, tuple(range(one)) if one == other else None)

    def test_maps_that_come_of_none(self):
        self.assertIsNone(map_behind(full(3), star(4), (0, 1, 2)))
        self.assertIsNone(map_behind(star(4), full(3), (2, 0, 1)))
        # The same ties, but not as many places.
        self.assertIsNone(map_behind(row(2), (3, ((0, 1),)), (0,)))
        self.assertIsNone(map_behind((7, row(3)[1]), row(3), (0, 1)))
        # The tie web of the paw is the kite, which turns about its midst both ways; the paw but one way.
        self.assertEqual(tie_web(PAW), (4, ((0, 1), (0, 2), (1, 2), (1, 3), (2, 3))))
        self.assertEqual(map_behind(PAW, PAW, (0, 2, 1, 3)), (1, 0, 2, 3))
        self.assertIsNone(map_behind(PAW, PAW, (3, 1, 2, 0)))
        self.assertIsNone(map_behind(PAW, PAW, (3, 2, 1, 0)))

    def test_threes_and_stars_beside_one_another(self):
        web = beside(full(3), star(4))
        self.assertEqual(map_behind(web, web, (2, 1, 0, 3, 4, 5)), (2, 1, 0, 3, 4, 5, 6))
        self.assertIsNone(map_behind(web, web, (3, 4, 5, 0, 1, 2)))
        other = moved(web, (6, 5, 4, 3, 2, 1, 0))
        self.assertEqual(map_behind(web, other, (5, 4, 3, 2, 1, 0)), (6, 5, 4, 3, 2, 1, 0))
        self.assertIsNone(map_behind(web, other, (0, 1, 2, 3, 4, 5)))

    def test_how_many_maps_come_of_none(self):
        # Joined webs with maps of the tie web that come of none: all ties of four places, all but one, and the paw.
        for web, all_maps, of_maps in [(full(4), 48, 24), (KITE, 8, 4), (PAW, 4, 2), (full(3), 6, 6), (star(4), 6, 6),
                                       (row(4), 2, 2), (ring(4), 8, 8), (ring(5), 10, 10), (ring(7), 14, 14),
                                       (BOW, 8, 8)]:
            maps = maps_of(tie_web(web), tie_web(web))
            behind = [map_behind(web, web, ties) for ties in maps]
            self.assertEqual(len(maps), all_maps)
            self.assertEqual(len([places for places in behind if places is not None]), of_maps)

    def check(self, one, other):
        """map_behind of all maps of the tie webs, against going through all maps of the webs."""
        firsts = firsts_behind(one, other)
        for ties in maps_of(tie_web(one), tie_web(other)):
            told = map_behind(one, other, ties)
            self.assertEqual(told, firsts.get(ties), (one, other, ties))
            if told is not None:
                self.assertIs(type(told), tuple)
                self.assertEqual(tie_map(one, other, told), ties)

    def test_webs_of_few_places(self):
        for many in range(5):
            orders = list(permutations(range(many)))
            for at, one in enumerate(webs_of(many)):
                self.check(one, one)
                self.check(one, moved(one, orders[at * 5 % len(orders)]))
        for one in [web for many in range(4) for web in webs_of(many)]:
            for other in [web for many in range(5) for web in webs_of(many)]:
                self.check(one, other)

    def test_webs_of_five_places(self):
        for one in webs_of(5)[:400:23]:
            self.check(one, moved(one, (3, 0, 4, 1, 2)))

    def test_webs_of_six_and_seven_places(self):
        for one in (row(7), star(7), ring(7), NET, (7, ((0, 1), (2, 3), (4, 5))), beside(full(3), row(4))):
            self.check(one, moved(one, (4, 2, 0, 5, 1, 3, 6)))

    def test_all_tie_maps_of_all_maps(self):
        for one in (row(5), BOW, KITE, full(4), ring(6), beside(row(2), row(2))):
            for places in list(permutations(range(one[0])))[::7]:
                other = moved(one, places)
                told = map_behind(one, other, tie_map(one, other, places))
                self.assertIsNotNone(told)
                self.assertLessEqual(told, places)

    def test_what_is_no_map_of_any_kind(self):
        # Of so many ties beside one another, and of those of a star, each order is a map of the tie webs.
        for web, many in [(beside(row(2), row(2)), 2), (beside(row(2), beside(row(2), row(2))), 3), (star(5), 4),
                          (star(7), 6), (ring(7), 7)]:
            for thing in no_maps_of(many):
                with self.subTest(web=web, thing=thing), self.assertRaises(NoMap):
                    map_behind(web, web, thing)

    def test_no_ties(self):
        for thing in [(0,), [], {}, "", None, 0, False, ((),), (0, 1, 2)]:
            with self.subTest(thing=thing), self.assertRaises(NoMap):
                map_behind(bare(3), bare(3), thing)

    def test_orders_of_the_ties_that_are_no_maps(self):
        for web in (row(4), PAW, KITE, BOW, (5, ((0, 1), (0, 2), (3, 4)))):
            ties = tie_web(web)
            for places in permutations(range(ties[0])):
                if moved(ties, places) != ties:
                    with self.subTest(web=web, places=places), self.assertRaises(NoMap):
                        map_behind(web, web, places)

    def test_maps_of_the_webs_are_none_of_the_tie_webs(self):
        for web in (row(3), star(4), KITE, full(4)):
            with self.assertRaises(NoMap):
                map_behind(web, web, tuple(range(web[0])))

    def test_webs_with_other_tie_webs(self):
        for one, other in [(row(3), (4, ((0, 1), (2, 3)))), (row(4), full(3)), (row(4), star(4)), (row(2), row(3)),
                           (bare(3), row(3)), (row(3), bare(3))]:
            for many in range(5):
                for places in permutations(range(many)):
                    with self.subTest(one=one, other=other, places=places), self.assertRaises(NoMap):
                        map_behind(one, other, places)

    def test_seven_ties_and_eight(self):
        for web in [(7, full(7)[1][:7]), ring(7)]:
            plain = tuple(range(7))
            self.assertEqual(map_behind(web, web, plain), plain)
        for many in range(8, 22):
            web = (7, full(7)[1][:many])
            for one, other in [(web, web), (web, row(3)), (row(3), web), (web, bare(0))]:
                for thing in (tuple(range(many)), (), None, (0, 1)):
                    check_too_great(self, lambda: map_behind(one, other, thing), many)

    def test_too_many_ties_are_told_of_the_web_ahead(self):
        for one, other in [(9, 12), (12, 9), (8, 21), (21, 8)]:
            check_too_great(self, lambda: map_behind((7, full(7)[1][:one]), (7, full(7)[1][:other]), ()), one)

    def test_too_many_places(self):
        for many in range(8, 15):
            for one, other in [(bare(many), bare(many)), (row(many), row(3)), (row(3), ring(many)),
                               (bare(7), bare(many)), (bare(many), bare(0))]:
                for thing in (tuple(range(many)), (), None, [0]):
                    check_too_great(self, lambda: map_behind(one, other, thing), many)

    def test_too_many_places_are_told_of_the_first_such_web(self):
        for one, other, many in [(8, 9, 8), (9, 8, 9), (14, 8, 14), (7, 10, 10), (10, 7, 10), (0, 14, 14)]:
            check_too_great(self, lambda: map_behind(bare(one), bare(other), ()), many)

    def test_too_many_places_go_ahead_of_too_many_ties(self):
        for one, other, many in [(full(7), bare(9), 9), (full(7), full(9), 9), (bare(9), full(7), 9),
                                 (full(9), full(7), 9), (full(9), full(8), 9), (full(6), row(14), 14),
                                 (full(14), full(6), 14)]:
            check_too_great(self, lambda: map_behind(one, other, ()), many)

    def test_no_web_goes_ahead(self):
        for thing in no_webs():
            for web in (bare(0), row(3), full(7), bare(8), full(14)):
                for places in ((), (0, 1, 2), None):
                    with self.subTest(thing=thing, web=web):
                        with self.assertRaises(NoWeb):
                            map_behind(thing, web, places)
                        with self.assertRaises(NoWeb):
                            map_behind(web, thing, places)

    def test_what_is_refused_is_left_as_it_was(self):
        for thing in [[1, 0], [0, [1]], {0: 1, 1: 0}, ([1], 0)]:
            before = deepcopy(thing)
            with self.assertRaises(NoMap):
                map_behind(row(3), row(3), thing)
            self.assertEqual(thing, before)
        self.assertEqual(map_behind(row(3), row(3), (1, 0)), (2, 1, 0))


class RootKinds(unittest.TestCase):
    def test_a_ring_of_three_has_a_ring_and_a_star(self):
        self.assertEqual(root_kinds(full(3)), [full(3), star(4)])

    def test_a_star_of_three_has_none(self):
        for places in permutations(range(4)):
            self.assertEqual(root_kinds(moved(star(4), places)), [])

    def test_no_place_and_one(self):
        self.assertEqual(root_kinds((0, ())), [(0, ())])
        self.assertEqual(root_kinds((1, ())), [(2, ((0, 1),))])

    def test_told_by_hand(self):
        self.assertEqual(root_kinds(row(2)), [(3, ((0, 1), (0, 2)))])
        self.assertEqual(root_kinds(row(3)), [(4, ((0, 1), (0, 2), (1, 3)))])
        self.assertEqual(root_kinds(KITE), [(4, ((0, 1), (0, 2), (1, 2), (2, 3)))])
        self.assertEqual(root_kinds(BOW), [(6, ((0, 1), (0, 2), (0, 3), (1, 4), (1, 5)))])
        self.assertEqual(root_kinds(EIGHT_SIDED), [full(4)])
        self.assertEqual(root_kinds(full(6)), [star(7)])
        self.assertEqual(root_kinds(ring(6)), [(6, ((0, 1), (0, 2), (1, 5), (2, 3), (3, 4), (4, 5)))])

    def test_several_sharings_with_alike_roots(self):
        for web in (KITE, EIGHT_SIDED, WHEEL_OF_FOUR):
            self.assertEqual(len(all_sharings(web)), 2)
            self.assertEqual(root_kinds(web), [root_by(web, all_sharings(web)[0])[0]])
            self.assertIsNotNone(map_to(*[root_by(web, sharing)[0] for sharing in all_sharings(web)]))

    def test_joined_webs_that_are_no_tie_webs(self):
        for web in BARRED + (star(5), star(6), WHEEL_OF_FIVE, without(full(6), (0, 1))):
            told = root_kinds(web)
            self.assertEqual(told, [], web)
            self.assertIs(type(told), list)

    def check(self, web):
        told = root_kinds(web)
        roots = [root_by(web, sharing)[0] for sharing in all_sharings(web)]
        if web == full(3):
            self.assertEqual(told, roots)
        else:
            self.assertEqual(told, roots[:1], web)
        for root in told:
            self.assertIs(is_web(root), True)
            self.assertIsNotNone(map_to(tie_web(root), web))

    def test_all_joined_webs_of_few_places(self):
        for many in range(6):
            for web in webs_of(many):
                if len(pieces(web)) < 2:
                    self.check(web)

    def test_joined_webs_of_six_places(self):
        for web in one_of_each_kind(6) + webs_of(6)[5000::101]:
            if len(pieces(web)) < 2:
                self.check(web)

    def test_two_joined_webs_with_alike_tie_webs_are_alike_but_for_these_two(self):
        found = {}
        for names in list(names_of(5))[::3]:
            root = root_named(names)
            if len(pieces(root)) < 2:
                for other in found.setdefault(web_named(names), []):
                    if map_to(root, other) is None:
                        self.fail((root, other))
                found[web_named(names)] = [root]
        for web, roots in found.items():
            self.assertIsNotNone(map_to(roots[0], root_kinds(web)[0]))
        for root in (full(3), star(4)):
            self.assertEqual(len([kind for kind in root_kinds(tie_web(root)) if map_to(root, kind) is not None]), 1)

    def test_more_pieces(self):
        for web in [bare(2), bare(3), bare(6), beside(full(3), bare(1)), beside(bare(1), full(3)),
                    beside(row(2), row(2)), beside(row(3), row(3)), beside(star(4), row(2)), beside(star(4), bare(1)),
                    (6, ((0, 1),)), (6, ((4, 5),))]:
            with self.subTest(web=web), self.assertRaises(NotJoined):
                root_kinds(web)

    def test_all_webs_of_four_places(self):
        for web in webs_of(4):
            if len(pieces(web)) > 1:
                with self.subTest(web=web), self.assertRaises(NotJoined):
                    root_kinds(web)

    def test_six_places_and_more(self):
        self.assertEqual(root_kinds(row(6)), [(7, ((0, 1), (0, 5), (1, 2), (2, 3), (3, 4), (4, 6)))])
        # Webs of one piece and of more are among these.
        check_too_many_places(self, root_kinds, 6)

    def test_no_web(self):
        check_no_web(self, root_kinds)

    def test_the_list_is_the_askers_own(self):
        for web in (full(3), KITE, star(4), bare(0)):
            told, before = root_kinds(web), root_kinds(web)
            self.assertIsNot(told, before)
            told.append(None)
            told[0] = None
            with self.assertRaises(NotJoined):
                root_kinds(bare(2))
            with self.assertRaises(TooGreat):
                root_kinds(bare(7))
            self.assertEqual(root_kinds(web), before)


if __name__ == "__main__":
    unittest.main()
