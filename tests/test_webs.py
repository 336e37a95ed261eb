import unittest
from copy import deepcopy
from itertools import combinations

from helper import THIRTY, bare, foreign_things, full, moved, nested, no_webs, odd_things, ring, row, star, webs_of
from tiewebs.errors import NoPlace, NoPlaces, NoWeb
from tiewebs.webs import degrees, is_web, near, pieces, within

# Three pieces, one of them a place without ties, and ties that join late what stands far apart.
LOOSE = (9, ((0, 5), (1, 8), (2, 7), (3, 4), (4, 6), (5, 7), (6, 8)))


def tied_pairs(web):
    return {pair for a, b in web[1] for pair in ((a, b), (b, a))}


def reached(web, place):
    """The places that can be reached from a place, tie by tie."""
    pairs, found = tied_pairs(web), {place}
    while True:
        more = found | {b for a, b in pairs if a in found}
        if more == found:
            return tuple(sorted(found))
        found = more


def no_places_of(many):
    """Things of which none is a rising tuple of places of a web of so many places, many from 3 on."""
    return odd_things() + foreign_things() + [
        0, 1, (many,), (0, many), (0, 1, many), (-1,), (-1, 0), (0, -1), (1, 0), (0, 0), (0, 1, 1), (0, 0, 1),
        (0, 2, 1), (1, 0, 2), (2, 1, 0), (2, 1), (1, 2, 0), [0, 1, 2], [0, 2], (0, True), (True, 2), (False, 1, 2),
        (0, 1.0), (0, None), (0, "1"), (0, [1]), ((0, 1),), (0, (1,)), (0, THIRTY), (-THIRTY, 0, 1), nested(0, 12),
        tuple(range(many + 1)), tuple(range(-1, many)),
    ]


class IsWeb(unittest.TestCase):
    def test_webs_without_ties(self):
        for many in range(15):
            with self.subTest(many=many):
                self.assertIs(is_web((many, ())), True)

    def test_webs_with_all_ties(self):
        for many in range(15):
            with self.subTest(many=many):
                self.assertIs(is_web(full(many)), True)

    def test_all_webs_of_few_places(self):
        for many in range(5):
            for web in webs_of(many):
                self.assertIs(is_web(web), True, web)

    def test_rows_rings_and_stars(self):
        for many in range(3, 15):
            for web in (row(many), ring(many), star(many)):
                self.assertIs(is_web(web), True, web)

    def test_each_single_tie_of_fourteen_places(self):
        for tie in combinations(range(14), 2):
            self.assertIs(is_web((14, (tie,))), True, tie)

    def test_too_many_places_and_too_few(self):
        for many in list(range(15, 31)) + list(range(-16, 0)) + [THIRTY, -THIRTY]:
            self.assertIs(is_web((many, ())), False, many)
            self.assertIs(is_web((many, ((0, 1),))), False, many)

    def test_each_pair_of_numbers_as_a_tie(self):
        for many in range(6):
            for a in range(-3, many + 3):
                for b in range(-3, many + 3):
                    self.assertIs(is_web((many, ((a, b),))), 0 <= a < b < many, (many, a, b))

    def test_each_order_of_two_ties(self):
        pairs = list(combinations(range(5), 2))
        for one in pairs:
            for other in pairs:
                self.assertIs(is_web((5, (one, other))), one < other, (one, other))

    def test_a_fault_at_each_place_among_the_ties(self):
        ties = full(5)[1]
        faults = [None, (), [0, 1], (0, 0), (1, 0), (4, 5), (-1, 0), (True, 2), (0, 1, 2), "01", {}]
        for at in range(len(ties)):
            for fault in faults:
                self.assertIs(is_web((5, ties[:at] + (fault,) + ties[at + 1:])), False, (at, fault))
            self.assertIs(is_web((5, ties[:at] + (ties[at],) + ties[at:])), False, at)
            self.assertIs(is_web((5, ties[:at] + (ties[at][::-1],) + ties[at + 1:])), False, at)
            self.assertIs(is_web((5, ties[:at] + ties[at + 1:])), True, at)

    def test_each_two_neighbouring_ties_turned_about(self):
        ties = full(5)[1]
        for at in range(len(ties) - 1):
            turned = ties[:at] + (ties[at + 1], ties[at]) + ties[at + 2:]
            self.assertIs(is_web((5, turned)), False, at)

    def test_what_is_no_web(self):
        for thing in no_webs():
            with self.subTest(thing=thing):
                self.assertIs(is_web(thing), False)

    def test_things_within_one_another(self):
        for deep in range(1, 13):
            for core in (0, None, True, "", (2, ((0, 1),)), (0, ())):
                thing = nested(core, deep)
                self.assertIs(is_web(thing), False, thing)

    def test_nothing_handed_in_is_changed(self):
        for thing in odd_things() + [[2, [[0, 1]]], (2, [[1, 0], [0, 1]]), (2, ([1, 0],)), {0: [1]}]:
            before = deepcopy(thing)
            is_web(thing)
            self.assertEqual(thing, before)

    def test_what_is_done_later_counts_anew(self):
        ties = [(0, 1)]
        self.assertIs(is_web((2, ties)), False)
        self.assertIs(is_web((2, tuple(ties))), True)
        ties.append((0, 1))
        self.assertIs(is_web((2, tuple(ties))), False)


class Near(unittest.TestCase):
    def test_told_by_hand(self):
        web = (5, ((0, 3), (1, 3), (2, 3)))
        self.assertEqual([near(web, place) for place in range(5)], [[3], [3], [3], [0, 1, 2], []])
        self.assertEqual(near(LOOSE, 8), [1, 6])
        self.assertEqual(near(LOOSE, 7), [2, 5])

    def test_it_rises_from_both_sides_of_a_place(self):
        self.assertEqual(near((5, ((0, 2), (1, 2), (2, 3), (2, 4))), 2), [0, 1, 3, 4])
        self.assertEqual(near((5, ((0, 4), (1, 2), (2, 3), (3, 4))), 4), [0, 3])

    def test_fourteen_places(self):
        for place in range(14):
            self.assertEqual(near(full(14), place), [other for other in range(14) if other != place])
            self.assertEqual(near(bare(14), place), [])
        self.assertEqual(near(ring(14), 13), [0, 12])

    def test_all_webs_of_few_places(self):
        for many in range(5):
            for web in webs_of(many):
                pairs = tied_pairs(web)
                for place in range(many):
                    self.assertEqual(near(web, place), sorted([b for a, b in pairs if a == place]), (web, place))

    def test_what_is_no_place_is_refused(self):
        for thing in odd_things() + foreign_things() + [(0,), [0], {0: 0}, "1", 5, 6, -5, (), ((0, 1),)]:
            with self.subTest(thing=thing), self.assertRaises(NoPlace):
                near(row(5), thing)

    def test_how_many_there_are_is_no_place(self):
        for many in range(15):
            for place in (many, many + 1, -1, -many - 1):
                with self.assertRaises(NoPlace):
                    near(bare(many), place)

    def test_no_web_goes_ahead(self):
        for thing in no_webs():
            for place in (0, -1, None, "0", []):
                with self.subTest(thing=thing, place=place), self.assertRaises(NoWeb):
                    near(thing, place)

    def test_the_list_is_the_askers_own(self):
        web = ring(5)
        told = near(web, 2)
        self.assertIsInstance(told, list)
        again = near(web, 2)
        self.assertIsNot(told, again)
        told.append(4)
        told[0] = 9
        again.clear()
        self.assertEqual(near(web, 2), [1, 3])
        self.assertEqual(web, ring(5))

    def test_an_empty_list_is_the_askers_own(self):
        told = near(bare(2), 0)
        told.append(1)
        self.assertEqual(near(bare(2), 0), [])
        self.assertEqual(near(bare(2), 1), [])


class Degrees(unittest.TestCase):
    def test_told_by_hand(self):
        self.assertEqual(degrees((0, ())), [])
        self.assertEqual(degrees((1, ())), [0])
        self.assertEqual(degrees((5, ((0, 3), (1, 3), (2, 3)))), [1, 1, 1, 3, 0])
        self.assertEqual(degrees(LOOSE), [1, 1, 1, 1, 2, 2, 2, 2, 2])

    def test_fourteen_places(self):
        self.assertEqual(degrees(full(14)), [13] * 14)
        self.assertEqual(degrees(bare(14)), [0] * 14)
        self.assertEqual(degrees(star(14)), [13] + [1] * 13)
        self.assertEqual(degrees(row(14)), [1] + [2] * 12 + [1])

    def test_all_webs_of_few_places(self):
        for many in range(5):
            for web in webs_of(many):
                pairs = tied_pairs(web)
                self.assertEqual(degrees(web), [len([a for a, b in pairs if a == place]) for place in range(many)])

    def test_whole_numbers_are_told(self):
        for each in degrees((3, ((0, 1),))):
            self.assertIs(type(each), int)

    def test_no_web(self):
        for thing in no_webs():
            with self.subTest(thing=thing), self.assertRaises(NoWeb):
                degrees(thing)

    def test_the_list_is_the_askers_own(self):
        web = star(4)
        told = degrees(web)
        self.assertIsInstance(told, list)
        self.assertIsNot(told, degrees(web))
        told[0] = 0
        told.pop()
        self.assertEqual(degrees(web), [3, 1, 1, 1])
        degrees((0, ())).append(1)
        self.assertEqual(degrees((0, ())), [])


class Pieces(unittest.TestCase):
    def test_told_by_hand(self):
        self.assertEqual(pieces((0, ())), [])
        self.assertEqual(pieces((1, ())), [(0,)])
        self.assertEqual(pieces((2, ())), [(0,), (1,)])
        self.assertEqual(pieces((2, ((0, 1),))), [(0, 1)])
        self.assertEqual(pieces((5, ((0, 3), (1, 4)))), [(0, 3), (1, 4), (2,)])
        self.assertEqual(pieces(LOOSE), [(0, 2, 5, 7), (1, 3, 4, 6, 8)])

    def test_pieces_that_join_late(self):
        self.assertEqual(pieces((6, ((0, 5), (1, 4), (2, 3), (3, 5), (4, 5)))), [(0, 1, 2, 3, 4, 5)])
        self.assertEqual(pieces((7, ((0, 6), (1, 5), (2, 4), (4, 6)))), [(0, 2, 4, 6), (1, 5), (3,)])

    def test_fourteen_places(self):
        for web in (full(14), row(14), ring(14), star(14)):
            self.assertEqual(pieces(web), [tuple(range(14))])
        self.assertEqual(pieces(bare(14)), [(place,) for place in range(14)])
        pairs = tuple([(at, at + 7) for at in range(7)])
        self.assertEqual(pieces((14, pairs)), list(pairs))

    def test_rows_under_other_numbers(self):
        for step in (1, 3, 5, 9, 11, 13):
            places = [at * step % 14 for at in range(14)]
            self.assertEqual(pieces(moved(row(14), places)), [tuple(range(14))])

    def test_all_webs_of_few_places(self):
        for many in range(6):
            for web in webs_of(many):
                self.assertEqual(pieces(web), sorted({reached(web, place) for place in range(many)}), web)

    def test_no_web(self):
        for thing in no_webs():
            with self.subTest(thing=thing), self.assertRaises(NoWeb):
                pieces(thing)

    def test_the_list_is_the_askers_own(self):
        web = (3, ((0, 2),))
        told = pieces(web)
        self.assertIsInstance(told, list)
        self.assertIsNot(told, pieces(web))
        for piece in told:
            self.assertIsInstance(piece, tuple)
        told.clear()
        self.assertEqual(pieces(web), [(0, 2), (1,)])
        pieces((0, ())).append((0,))
        self.assertEqual(pieces((0, ())), [])


class Within(unittest.TestCase):
    def test_told_by_hand(self):
        self.assertEqual(within((5, ((0, 3), (1, 3), (2, 4), (3, 4))), (1, 3, 4)), (3, ((0, 1), (1, 2))))
        self.assertEqual(within(ring(5), (0, 2, 4)), (3, ((0, 2),)))
        self.assertEqual(within(LOOSE, (2, 5, 6, 7, 8)), (5, ((0, 3), (1, 3), (2, 4))))

    def test_no_places(self):
        for web in (bare(0), bare(3), full(5), full(14)):
            self.assertEqual(within(web, ()), (0, ()))

    def test_all_places(self):
        for web in (bare(0), LOOSE, full(14), ring(14), row(14), star(14), bare(14)):
            self.assertEqual(within(web, tuple(range(web[0]))), web)

    def test_single_places(self):
        for place in range(14):
            self.assertEqual(within(full(14), (place,)), (1, ()))

    def test_fourteen_places(self):
        self.assertEqual(within(full(14), tuple(range(1, 14))), full(13))
        self.assertEqual(within(ring(14), tuple(range(13))), row(13))
        self.assertEqual(within(ring(14), (0, 12, 13)), (3, ((0, 2), (1, 2))))
        self.assertEqual(within(star(14), tuple(range(1, 14))), bare(13))

    def test_all_webs_of_few_places(self):
        for many in range(5):
            for web in webs_of(many):
                for size in range(many + 1):
                    for some in combinations(range(many), size):
                        told = within(web, some)
                        self.assertIs(is_web(told), True)
                        ties = tuple([(a, b) for a, b in combinations(range(size), 2) if (some[a], some[b]) in web[1]])
                        self.assertEqual(told, (size, ties), (web, some))

    def test_what_are_no_places_is_refused(self):
        for web in (row(3), full(5), bare(14)):
            for thing in no_places_of(web[0]):
                with self.subTest(web=web, thing=thing), self.assertRaises(NoPlaces):
                    within(web, thing)

    def test_a_place_of_a_web_without_places_is_refused(self):
        for thing in [(0,), (-1,), (0, 1), [], {}, "", None, 0, False]:
            with self.subTest(thing=thing), self.assertRaises(NoPlaces):
                within((0, ()), thing)

    def test_no_web_goes_ahead(self):
        for thing in no_webs():
            for some in ((), (0,), (1, 0), None, [0], -1):
                with self.subTest(thing=thing, some=some), self.assertRaises(NoWeb):
                    within(thing, some)

    def test_the_same_again_and_nothing_changed(self):
        web, some = (4, ((0, 1), (1, 3))), [0, 1, 3]
        with self.assertRaises(NoPlaces):
            within(web, some)
        self.assertEqual(some, [0, 1, 3])
        told = within(web, tuple(some))
        some.clear()
        self.assertEqual(told, (3, ((0, 1), (1, 2))))
        self.assertEqual(within(web, (0, 1, 3)), told)
        self.assertEqual(web, (4, ((0, 1), (1, 3))))


if __name__ == "__main__":
    unittest.main()
