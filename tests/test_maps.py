import unittest
from copy import deepcopy
from itertools import permutations

from helper import bare, full, moved, no_maps_of, no_webs, odd_things, ring, row, star, webs_of
from tiewebs.errors import NoWeb, TooGreat
from tiewebs.maps import map_holds, map_to

# A web of seven places that no map but the plain one takes to itself: a row with a tie that makes it one-sided.
STIFF = (7, ((0, 1), (1, 2), (1, 3), (2, 3), (3, 4), (4, 5), (5, 6)))


def is_map(one, other, places):
    """Whether places, an order of the places of both webs, takes the one to the other: by what the ties become."""
    return moved(one, places) == other


def first_map(one, other):
    if one[0] != other[0]:
        return None
    for places in permutations(range(one[0])):
        if is_map(one, other, places):
            return places
    return None


class MapHolds(unittest.TestCase):
    def test_told_by_hand(self):
        one, other = (4, ((0, 1), (1, 2))), (4, ((0, 3), (2, 3)))
        self.assertIs(map_holds(one, other, (0, 3, 2, 1)), True)
        self.assertIs(map_holds(one, other, (2, 3, 0, 1)), True)
        self.assertIs(map_holds(one, other, (0, 2, 3, 1)), False)
        self.assertIs(map_holds(one, other, (0, 1, 2, 3)), False)

    def test_the_map_goes_from_the_one_to_the_other(self):
        one = (4, ((0, 1), (1, 2), (1, 3), (2, 3)))
        turn = (1, 2, 3, 0)
        other = moved(one, turn)
        self.assertIs(map_holds(one, other, turn), True)
        self.assertIs(map_holds(other, one, turn), False)
        self.assertIs(map_holds(other, one, (3, 0, 1, 2)), True)
        self.assertIs(map_holds(one, other, (3, 0, 1, 2)), False)

    def test_ties_that_are_only_on_one_side(self):
        plain = (0, 1, 2)
        self.assertIs(map_holds(row(3), full(3), plain), False)
        self.assertIs(map_holds(full(3), row(3), plain), False)
        self.assertIs(map_holds(bare(3), row(3), plain), False)
        self.assertIs(map_holds(row(3), bare(3), plain), False)
        self.assertIs(map_holds((4, ((0, 1),)), (4, ((0, 1), (2, 3))), (0, 1, 2, 3)), False)
        self.assertIs(map_holds((4, ((0, 1), (2, 3))), (4, ((0, 1),)), (0, 1, 2, 3)), False)

    def test_all_pairs_of_webs_of_three_places(self):
        for one in webs_of(3):
            for other in webs_of(3):
                for places in permutations(range(3)):
                    self.assertIs(map_holds(one, other, places), is_map(one, other, places), (one, other, places))

    def test_webs_of_four_places(self):
        webs = webs_of(4)
        for at, one in enumerate(webs):
            for other in [one, webs[at * 7 % 64], webs[at * 11 % 64]] + [moved(one, (1, 3, 0, 2))]:
                for places in permutations(range(4)):
                    self.assertIs(map_holds(one, other, places), is_map(one, other, places), (one, other, places))

    def test_the_web_without_places(self):
        self.assertIs(map_holds((0, ()), (0, ()), ()), True)
        for thing in [(0,), [], {}, "", None, 0, False, ((),)]:
            self.assertIs(map_holds((0, ()), (0, ()), thing), False, thing)

    def test_one_place(self):
        self.assertIs(map_holds((1, ()), (1, ()), (0,)), True)
        for thing in [(), (1,), (-1,), (False,), (True,), [0], {0: 0}, "0", 0, (0, 0), ((0,),), (None,)]:
            self.assertIs(map_holds((1, ()), (1, ()), thing), False, thing)

    def test_webs_of_another_number_of_places(self):
        for one in range(8):
            for other in range(8):
                for many in range(8):
                    told = map_holds(bare(one), bare(other), tuple(range(many)))
                    self.assertIs(told, one == other == many, (one, other, many))

    def test_seven_places(self):
        plain = tuple(range(7))
        for places in [plain, plain[::-1], (2, 0, 3, 1, 6, 4, 5)]:
            self.assertIs(map_holds(STIFF, moved(STIFF, places), places), True)
            self.assertIs(map_holds(full(7), full(7), places), True)
            self.assertIs(map_holds(bare(7), bare(7), places), True)
        self.assertIs(map_holds(STIFF, STIFF, plain[::-1]), False)
        self.assertIs(map_holds(ring(7), ring(7), (3, 4, 5, 6, 0, 1, 2)), True)
        self.assertIs(map_holds(ring(7), ring(7), (0, 2, 4, 6, 1, 3, 5)), False)

    def test_each_fault_of_a_single_tie(self):
        plain = tuple(range(7))
        for tie in full(7)[1]:
            ties = set(STIFF[1]) ^ {tie}
            other = (7, tuple(sorted(ties)))
            self.assertIs(map_holds(STIFF, other, plain), False, tie)
            self.assertIs(map_holds(other, STIFF, plain), False, tie)
            self.assertIs(map_holds(other, other, plain), True, tie)

    def test_what_is_no_map_of_any_kind(self):
        # Between webs without ties, and with all, each order of the places is a map.
        for many in (2, 3, 4, 7):
            for web in (bare(many), full(many)):
                for thing in no_maps_of(many):
                    with self.subTest(web=web, thing=thing):
                        self.assertIs(map_holds(web, web, thing), False)

    def test_too_great(self):
        for many in range(8, 15):
            for one, other in [(bare(many), bare(many)), (full(many), row(3)), (row(3), full(many)),
                               (bare(7), bare(many)), (bare(many), bare(0))]:
                for thing in (tuple(range(many)), (), None, [0]):
                    with self.assertRaises(TooGreat) as caught:
                        map_holds(one, other, thing)
                    self.assertEqual((caught.exception.many, caught.exception.most), (many, 7))

    def test_too_great_is_told_of_the_first_such_web(self):
        for one, other, many in [(8, 9, 8), (9, 8, 9), (14, 8, 14), (7, 10, 10), (10, 7, 10), (0, 14, 14)]:
            with self.assertRaises(TooGreat) as caught:
                map_holds(bare(one), bare(other), ())
            self.assertEqual((caught.exception.many, caught.exception.most), (many, 7))

    def test_no_web_goes_ahead(self):
        for thing in no_webs():
            for web in (bare(0), row(3), bare(8), full(14)):
                for places in ((), (0, 1, 2), None):
                    with self.subTest(thing=thing, web=web):
                        with self.assertRaises(NoWeb):
                            map_holds(thing, web, places)
                        with self.assertRaises(NoWeb):
                            map_holds(web, thing, places)
            with self.assertRaises(NoWeb):
                map_holds(thing, thing, ())

    def test_nothing_handed_in_is_changed(self):
        for thing in odd_things() + [[1, 0], [0, [1]], {0: 1, 1: 0}, ([1], 0)]:
            before = deepcopy(thing)
            map_holds(row(2), row(2), thing)
            self.assertEqual(thing, before)

    def test_what_is_done_later_counts_anew(self):
        places = [1, 0]
        self.assertIs(map_holds(row(2), row(2), tuple(places)), True)
        self.assertIs(map_holds(row(2), row(2), places), False)
        places[0] = 0
        self.assertIs(map_holds(row(2), row(2), tuple(places)), False)
        self.assertIs(map_holds(row(2), row(2), (1, 0)), True)


class MapTo(unittest.TestCase):
    def test_told_by_hand(self):
        self.assertEqual(map_to((0, ()), (0, ())), ())
        self.assertEqual(map_to((1, ()), (1, ())), (0,))
        self.assertEqual(map_to((4, ((0, 1), (1, 2))), (4, ((0, 3), (2, 3)))), (0, 3, 2, 1))
        self.assertEqual(map_to((3, ((0, 1),)), (3, ((1, 2),))), (1, 2, 0))
        self.assertEqual(map_to((3, ((1, 2),)), (3, ((0, 1),))), (2, 0, 1))

    def test_the_first_one_of_many(self):
        plain = tuple(range(7))
        for web in (bare(7), full(7), ring(7), row(7), star(7), STIFF):
            self.assertEqual(map_to(web, web), plain)
        self.assertEqual(map_to(row(7), moved(row(7), plain[::-1])), plain)
        self.assertEqual(map_to(star(7), moved(star(7), (6, 0, 1, 2, 3, 4, 5))), (6, 0, 1, 2, 3, 4, 5))
        self.assertEqual(map_to(star(7), moved(star(7), (3, 6, 5, 4, 2, 1, 0))), (3, 0, 1, 2, 4, 5, 6))

    def test_none_where_there_is_no_map(self):
        self.assertIsNone(map_to(row(4), star(4)))
        self.assertIsNone(map_to(row(3), full(3)))
        self.assertIsNone(map_to(full(3), row(3)))
        self.assertIsNone(map_to(bare(2), full(2)))
        # As many tied to each place, and yet not alike.
        two_rings = (6, ((0, 1), (0, 2), (1, 2), (3, 4), (3, 5), (4, 5)))
        self.assertIsNone(map_to(ring(6), two_rings))
        self.assertIsNone(map_to(two_rings, ring(6)))

    def test_webs_of_another_number_of_places(self):
        for one in range(8):
            for other in range(8):
                expected = tuple(range(one)) if one == other else None
                self.assertEqual(map_to(bare(one), bare(other)), expected)
                self.assertEqual(map_to(full(one), full(other)), expected)

    def test_all_pairs_of_webs_of_few_places(self):
        webs = [web for many in range(4) for web in webs_of(many)]
        for one in webs:
            for other in webs:
                self.assertEqual(map_to(one, other), first_map(one, other), (one, other))

    def test_all_pairs_of_webs_of_four_places(self):
        for one in webs_of(4):
            for other in webs_of(4):
                self.assertEqual(map_to(one, other), first_map(one, other), (one, other))

    def test_seven_places_under_other_numbers(self):
        for web in (STIFF, ring(7), row(7), (7, ((0, 1), (0, 2), (1, 2), (3, 4), (4, 5)))):
            for places in [(2, 0, 3, 1, 6, 4, 5), (6, 4, 2, 0, 5, 3, 1), (1, 0, 2, 3, 4, 6, 5)]:
                other = moved(web, places)
                told = map_to(web, other)
                self.assertEqual(told, first_map(web, other))
                self.assertIs(type(told), tuple)
                self.assertIs(map_holds(web, other, told), True)

    def test_seven_places_without_a_map(self):
        self.assertIsNone(map_to(full(7), (7, full(7)[1][:-1])))
        self.assertIsNone(map_to((7, full(7)[1][1:]), full(7)))
        ring_and_three = (7, ((0, 1), (0, 3), (1, 2), (2, 3), (4, 5), (4, 6), (5, 6)))
        self.assertIsNone(map_to(ring(7), ring_and_three))

    def test_too_great(self):
        for many in range(8, 15):
            for one, other in [(bare(many), bare(many)), (full(many), row(3)), (row(3), full(many)),
                               (bare(7), bare(many)), (bare(many), bare(0))]:
                with self.assertRaises(TooGreat) as caught:
                    map_to(one, other)
                self.assertEqual((caught.exception.many, caught.exception.most), (many, 7))

    def test_too_great_is_told_of_the_first_such_web(self):
        for one, other, many in [(8, 9, 8), (9, 8, 9), (14, 8, 14), (7, 10, 10), (10, 7, 10), (0, 14, 14)]:
            with self.assertRaises(TooGreat) as caught:
                map_to(bare(one), bare(other))
            self.assertEqual((caught.exception.many, caught.exception.most), (many, 7))

    def test_no_web_goes_ahead(self):
        for thing in no_webs():
            for web in (bare(0), row(3), bare(8), full(14)):
                with self.subTest(thing=thing, web=web):
                    with self.assertRaises(NoWeb):
                        map_to(thing, web)
                    with self.assertRaises(NoWeb):
                        map_to(web, thing)

    def test_the_same_again(self):
        one, other = row(5), moved(row(5), (2, 0, 4, 1, 3))
        told = map_to(one, other)
        self.assertIsNone(map_to(one, star(5)))
        with self.assertRaises(TooGreat):
            map_to(one, bare(8))
        self.assertEqual(map_to(one, other), told)
        self.assertEqual((one, other), (row(5), moved(row(5), (2, 0, 4, 1, 3))))


if __name__ == "__main__":
    unittest.main()
