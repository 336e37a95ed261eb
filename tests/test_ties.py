import unittest
from copy import deepcopy
from itertools import combinations

from helper import (BOW, NET, THIRTY, bare, beside, check_no_web, foreign_things, full, moved, odd_things, ring, row,
                    star, webs_of)
from tiewebs.errors import NoPlace, NoWeb, TooGreat
from tiewebs.maps import map_to
from tiewebs.ties import star_of, tie_web, ties_ahead
from tiewebs.webs import is_web, near


def meeting(web):
    """The pairs of numbers of the ties of a web that meet."""
    return tuple([(a, b) for a, b in combinations(range(len(web[1])), 2) if len({*web[1][a], *web[1][b]}) == 3])


class TieWeb(unittest.TestCase):
    def test_told_by_hand(self):
        self.assertEqual(tie_web((2, ((0, 1),))), (1, ()))
        self.assertEqual(tie_web(row(3)), (2, ((0, 1),)))
        self.assertEqual(tie_web((4, ((0, 1), (2, 3)))), (2, ()))
        self.assertEqual(tie_web((5, ((0, 3), (1, 2), (1, 4), (3, 4)))), (4, ((0, 3), (1, 2), (2, 3))))
        self.assertEqual(tie_web(BOW), (6, ((0, 1), (0, 2), (1, 2), (1, 3), (1, 4), (2, 3), (2, 4), (3, 4), (3, 5),
                                            (4, 5))))

    def test_a_common_place_at_each_end(self):
        # The lesser places, the greater ones, and one of each, either way round.
        for ties in [((0, 1), (0, 2)), ((0, 2), (1, 2)), ((0, 1), (1, 2))]:
            self.assertEqual(tie_web((3, ties)), (2, ((0, 1),)), ties)
        for ties in [((0, 1), (2, 3)), ((0, 2), (1, 3)), ((0, 3), (1, 2))]:
            self.assertEqual(tie_web((4, ties)), (2, ()), ties)

    def test_the_web_without_places(self):
        self.assertEqual(tie_web((0, ())), (0, ()))

    def test_webs_without_ties(self):
        for many in range(15):
            self.assertEqual(tie_web(bare(many)), (0, ()))

    def test_rows_rings_and_stars(self):
        for many in range(1, 9):
            self.assertEqual(tie_web(row(many)), row(many - 1))
            self.assertEqual(tie_web(star(many)), full(many - 1))
        for many in range(3, 8):
            self.assertIsNotNone(map_to(tie_web(ring(many)), ring(many)))

    def test_a_star_and_a_ring_of_three(self):
        self.assertEqual(tie_web(star(4)), full(3))
        self.assertEqual(tie_web(full(3)), full(3))

    def test_all_ties_of_four_places(self):
        self.assertEqual(tie_web(full(4)), (6, tuple([tie for tie in full(6)[1] if sum(tie) != 5])))

    def test_fourteen_places(self):
        pairs = tuple([(at, at + 7) for at in range(7)])
        self.assertEqual(tie_web((14, pairs)), (7, ()))
        ends = tuple([(at, 13) for at in range(6, 13)])
        self.assertEqual(tie_web((14, ends)), full(7))
        self.assertEqual(tie_web((14, row(14)[1][6:])), row(7))

    def test_all_webs_of_few_places(self):
        for many in range(6):
            for web in webs_of(many):
                if len(web[1]) <= 7:
                    told = tie_web(web)
                    self.assertEqual(told, (len(web[1]), meeting(web)), web)
                    self.assertIs(is_web(told), True)

    def test_seven_ties_are_taken(self):
        for web in (row(8), ring(7), star(8), (5, full(5)[1][:7]), (5, full(5)[1][3:]), (14, full(14)[1][:7]),
                    (14, full(14)[1][-7:]), (14, full(14)[1][10:17])):
            self.assertEqual(tie_web(web), (7, meeting(web)))

    def test_more_ties_are_too_great(self):
        for web in [row(9), ring(8), star(9), full(5), full(7), row(14), ring(14), star(14), full(14),
                    (5, full(5)[1][:8]), (5, full(5)[1][2:])] + [(14, full(14)[1][:many]) for many in range(8, 92)]:
            with self.subTest(web=web):
                with self.assertRaises(TooGreat) as caught:
                    tie_web(web)
                self.assertEqual((caught.exception.many, caught.exception.most), (len(web[1]), 7))

    def test_no_web(self):
        check_no_web(self, tie_web)

    def test_no_web_of_many_ties(self):
        for ties in (full(14)[1][::-1], full(14)[1] * 2, list(full(14)[1]), full(14)[1][:8] + ((True, 2),)):
            with self.assertRaises(NoWeb):
                tie_web((14, ties))

    def test_the_same_again(self):
        web = (5, ((0, 3), (1, 2), (1, 4), (3, 4)))
        told = tie_web(web)
        with self.assertRaises(TooGreat):
            tie_web(full(5))
        self.assertEqual(tie_web(web), told)
        self.assertEqual(web, (5, ((0, 3), (1, 2), (1, 4), (3, 4))))


class StarOf(unittest.TestCase):
    def test_told_by_hand(self):
        web = (6, ((0, 3), (1, 2), (1, 4), (3, 4)))
        self.assertEqual([star_of(web, place) for place in range(6)], [(0,), (1, 2), (1,), (0, 3), (2, 3), ()])
        self.assertEqual(star_of(NET, 1), (0, 3, 4))
        self.assertEqual(star_of(star(5), 0), (0, 1, 2, 3))

    def test_single_places(self):
        self.assertEqual(star_of((1, ()), 0), ())
        for many in range(1, 15):
            for place in range(many):
                self.assertEqual(star_of(bare(many), place), ())

    def test_fourteen_places_and_any_number_of_ties(self):
        self.assertEqual(star_of(full(14), 0), tuple(range(13)))
        self.assertEqual(star_of(full(14), 13), (12, 24, 35, 45, 54, 62, 69, 75, 80, 84, 87, 89, 90))
        for web in (full(14), ring(14), row(14), star(14), full(5)):
            for place in range(web[0]):
                told = star_of(web, place)
                self.assertEqual([web[1][at] for at in told],
                                 sorted([tuple(sorted((place, other))) for other in near(web, place)]))

    def test_all_webs_of_few_places(self):
        for many in range(5):
            for web in webs_of(many):
                for place in range(many):
                    told = star_of(web, place)
                    self.assertIs(type(told), tuple)
                    self.assertEqual(told, tuple([at for at in range(len(web[1])) if web[1][at].count(place)]))

    def test_what_is_no_place_is_refused(self):
        for thing in odd_things() + foreign_things() + [(0,), [0], {0: 0}, "1", 5, 6, -5, THIRTY, (), (0, 1)]:
            for web in (row(5), full(5)):
                with self.subTest(thing=thing), self.assertRaises(NoPlace):
                    star_of(web, thing)

    def test_how_many_there_are_is_no_place(self):
        for many in range(15):
            for web in (bare(many), full(many)):
                for place in (many, many + 1, -1, -many - 1):
                    with self.assertRaises(NoPlace):
                        star_of(web, place)

    def test_no_web_goes_ahead(self):
        for place in (0, -1, None, "0", [], True):
            check_no_web(self, lambda thing, place=place: star_of(thing, place))

    def test_nothing_handed_in_is_changed(self):
        for thing in odd_things():
            before = deepcopy(thing)
            with self.assertRaises(NoPlace):
                star_of(row(3), thing)
            self.assertEqual(thing, before)
        self.assertEqual(star_of(row(3), 1), (0, 1))


class TiesAhead(unittest.TestCase):
    def test_told_by_hand(self):
        self.assertEqual(ties_ahead((0, ())), 0)
        self.assertEqual(ties_ahead((2, ((0, 1),))), 0)
        self.assertEqual(ties_ahead(row(3)), 1)
        self.assertEqual(ties_ahead(star(4)), 3)
        self.assertEqual(ties_ahead(star(5)), 6)
        self.assertEqual(ties_ahead(full(3)), 3)
        self.assertEqual(ties_ahead(BOW), 10)
        self.assertEqual(ties_ahead(NET), 9)

    def test_webs_without_ties(self):
        for many in range(15):
            self.assertEqual(ties_ahead(bare(many)), 0)

    def test_webs_of_any_size(self):
        self.assertEqual(ties_ahead(full(14)), 14 * 78)
        self.assertEqual(ties_ahead(star(14)), 78)
        self.assertEqual(ties_ahead(row(14)), 12)
        self.assertEqual(ties_ahead(ring(14)), 14)
        self.assertEqual(ties_ahead(beside(full(7), full(7))), 2 * 7 * 15)
        self.assertEqual(ties_ahead(beside(star(7), ring(7))), 15 + 7)

    def test_it_is_the_number_of_the_ties_of_the_tie_web(self):
        for many in range(6):
            for web in webs_of(many):
                told = ties_ahead(web)
                self.assertEqual(told, len(meeting(web)), web)
                self.assertIs(type(told), int)
                if len(web[1]) <= 7:
                    self.assertEqual(told, len(tie_web(web)[1]), web)

    def test_it_is_so_of_webs_of_fourteen_places(self):
        places = [at * 5 % 14 for at in range(14)]
        for many in range(8):
            for start in range(0, 84, 6):
                web = (14, full(14)[1][start:start + many])
                self.assertEqual(ties_ahead(web), len(tie_web(web)[1]), web)
                self.assertEqual(ties_ahead(moved(web, places)), ties_ahead(web))

    def test_no_web(self):
        check_no_web(self, ties_ahead)


if __name__ == "__main__":
    unittest.main()
