import unittest
from copy import deepcopy
from itertools import combinations, permutations

from helper import (BOW, EIGHT_SIDED, KITE, THIRTY, bare, check_no_web, check_too_many_places, foreign_things, full,
                    nested, odd_things, ring, row, star, webs_of)
from tiewebs.crowds import all_crowds, is_crowd
from tiewebs.errors import TooGreat


def crowds_of(web):
    """All crowds of a web, by looking at each choice of places."""
    choices = [some for size in range(2, web[0] + 1) for some in combinations(range(web[0]), size)]
    return sorted([some for some in choices if set(combinations(some, 2)) <= set(web[1])])


def no_crowds_of(many):
    """Things of which none is a crowd of a web of so many places, all of them tied, many from 3 on."""
    return odd_things() + foreign_things() + [
        0, 1, (), (0,), (1,), (many - 1,), (many,), (0, many), (1, many), (0, 1, many), (-1, 0), (-1, 1), (0, -1),
        (-2, -1), (0, 0), (1, 1), (0, 0, 1), (0, 1, 1), (1, 0), (2, 0), (2, 1, 0), (0, 2, 1), (1, 0, 2), (1, 2, 0),
        [0, 1], [0, 1, 2], {0: 1, 1: 2}, {(0, 1): True}, "01", "(0, 1)", ("0", "1"), (0, "1"), ("01",),
        (0, True), (False, 1), (False, True), (True, 2), (0, 1, True), (0, None), (None, 0), (None, None),
        (0, 1, None), (0, 1, "2"), (0, 1, [2]), (0, 1, (2,)), ([0, 1],), ((0, 1),), ((0, 1), (0, 2)), [(0, 1)],
        ((0,), (1,)), (0, (1,)), ((0, 1), 2), (0, [1]), (0, {}), (0, 1.0), (0.0, 1.0), {0, 1}, (THIRTY - 1, THIRTY),
        (0, THIRTY), (-THIRTY, 0), (0, 1, nested(2, 11)), (nested(0, 11), 1), tuple(range(many + 1)),
        tuple(range(-1, many)), tuple(range(many))[::-1], tuple(range(many)) * 2, list(range(many)),
    ]


class IsCrowd(unittest.TestCase):
    def test_told_by_hand(self):
        for thing in [(0, 1), (0, 2), (1, 2), (1, 3), (2, 3), (0, 1, 2), (1, 2, 3)]:
            self.assertIs(is_crowd(KITE, thing), True, thing)
        for thing in [(0, 3), (0, 1, 3), (0, 2, 3), (0, 1, 2, 3)]:
            self.assertIs(is_crowd(KITE, thing), False, thing)

    def test_two_places_are_one_where_they_are_tied(self):
        for many in range(8):
            for web in (bare(many), row(many), full(many), star(many)):
                for pair in combinations(range(many), 2):
                    self.assertIs(is_crowd(web, pair), pair in web[1], (web, pair))

    def test_one_place_and_none_are_no_crowd(self):
        for many in range(8):
            for web in (bare(many), full(many)):
                self.assertIs(is_crowd(web, ()), False, web)
                for place in range(-2, many + 2):
                    self.assertIs(is_crowd(web, (place,)), False, (web, place))

    def test_each_single_tie_out_of_a_crowd(self):
        for many in range(3, 8):
            everyone = tuple(range(many))
            self.assertIs(is_crowd(full(many), everyone), True)
            for tie in full(many)[1]:
                web = (many, tuple([each for each in full(many)[1] if each != tie]))
                self.assertIs(is_crowd(web, everyone), False, tie)
                self.assertIs(is_crowd(web, tuple([place for place in everyone if place != tie[0]])), True, tie)

    def test_places_that_do_not_rise(self):
        for size in range(2, 5):
            for places in permutations(range(5), size):
                self.assertIs(is_crowd(full(5), places), list(places) == sorted(places), places)

    def test_all_webs_of_few_places(self):
        for many in range(6):
            choices = [some for size in range(many + 2) for some in combinations(range(many + 1), size)]
            for web in webs_of(many)[::1 if many < 5 else 7]:
                expected = crowds_of(web)
                for some in choices:
                    self.assertIs(is_crowd(web, some), some in expected, (web, some))

    def test_what_is_no_crowd_of_any_kind(self):
        # In a web with all ties any two places or more are a crowd.
        for many in (3, 4, 7):
            for thing in no_crowds_of(many):
                with self.subTest(many=many, thing=thing):
                    self.assertIs(is_crowd(full(many), thing), False)

    def test_nothing_is_a_crowd_of_a_web_without_ties(self):
        for many in range(8):
            for thing in no_crowds_of(7) + [(0, 1), (0, 2), (0, 1, 2)]:
                with self.subTest(many=many, thing=thing):
                    self.assertIs(is_crowd(bare(many), thing), False)

    def test_things_within_one_another(self):
        for deep in range(1, 13):
            for core in (0, (0, 1), True, None, "", []):
                self.assertIs(is_crowd(full(4), nested(core, deep)), False)
                self.assertIs(is_crowd(full(4), (0, nested(core, deep - 1))), False)

    def test_seven_places_are_taken(self):
        self.assertIs(is_crowd(full(7), tuple(range(7))), True)
        self.assertIs(is_crowd(full(7), (0, 6)), True)
        self.assertIs(is_crowd(ring(7), (0, 6)), True)
        self.assertIs(is_crowd(ring(7), (0, 1, 6)), False)

    def test_too_great(self):
        for thing in ((0, 1), (), None, [0, 1], tuple(range(14)), True):
            check_too_many_places(self, lambda web, thing=thing: is_crowd(web, thing), 7)

    def test_no_web_goes_ahead(self):
        for thing in ((0, 1), (), None, [0, 1]):
            check_no_web(self, lambda web, thing=thing: is_crowd(web, thing))

    def test_nothing_handed_in_is_changed(self):
        for thing in odd_things() + [[1, 0], [0, [1]], ([1], 0), {0: [1]}]:
            before = deepcopy(thing)
            is_crowd(full(3), thing)
            self.assertEqual(thing, before)

    def test_what_is_done_later_counts_anew(self):
        places = [0, 1]
        self.assertIs(is_crowd(row(3), tuple(places)), True)
        self.assertIs(is_crowd(row(3), places), False)
        places[1] = 2
        self.assertIs(is_crowd(row(3), tuple(places)), False)
        self.assertIs(is_crowd(row(3), (0, 1)), True)


class AllCrowds(unittest.TestCase):
    def test_told_by_hand(self):
        self.assertEqual(all_crowds((2, ((0, 1),))), [(0, 1)])
        self.assertEqual(all_crowds(full(3)), [(0, 1), (0, 1, 2), (0, 2), (1, 2)])
        self.assertEqual(all_crowds(KITE), [(0, 1), (0, 1, 2), (0, 2), (1, 2), (1, 2, 3), (1, 3), (2, 3)])
        self.assertEqual(all_crowds(BOW), [(0, 1), (0, 1, 2), (0, 2), (1, 2), (2, 3), (2, 3, 4), (2, 4), (3, 4)])
        self.assertEqual(all_crowds(full(4)), [(0, 1), (0, 1, 2), (0, 1, 2, 3), (0, 1, 3), (0, 2), (0, 2, 3), (0, 3),
                                               (1, 2), (1, 2, 3), (1, 3), (2, 3)])

    def test_webs_without_ties(self):
        for many in range(8):
            self.assertEqual(all_crowds(bare(many)), [])

    def test_ties_alone(self):
        for web in (row(7), ring(7), star(7), ring(4)):
            self.assertEqual(all_crowds(web), list(web[1]))

    def test_all_places_tied(self):
        for many in range(8):
            told = all_crowds(full(many))
            self.assertEqual(told, crowds_of(full(many)))
            self.assertEqual(len(told), 2 ** many - many - 1)

    def test_all_webs_of_few_places(self):
        for many in range(6):
            for web in webs_of(many):
                self.assertEqual(all_crowds(web), crowds_of(web), web)

    def test_six_and_seven_places(self):
        for web in [EIGHT_SIDED] + webs_of(6)[::211] + [(7, full(7)[1][start::3]) for start in range(3)] + [
                (7, full(7)[1][start:]) for start in range(21)] + [(7, full(7)[1][:end]) for end in range(21)]:
            told = all_crowds(web)
            self.assertEqual(told, crowds_of(web), web)
            for crowd in told:
                self.assertIs(type(crowd), tuple)
                self.assertIs(is_crowd(web, crowd), True)

    def test_too_great(self):
        check_too_many_places(self, all_crowds, 7)

    def test_no_web(self):
        check_no_web(self, all_crowds)

    def test_the_list_is_the_askers_own(self):
        web = full(3)
        told = all_crowds(web)
        self.assertIs(type(told), list)
        again = all_crowds(web)
        self.assertIsNot(told, again)
        told.append((0, 9))
        told[0] = None
        again.clear()
        with self.assertRaises(TooGreat):
            all_crowds(bare(8))
        self.assertEqual(all_crowds(web), [(0, 1), (0, 1, 2), (0, 2), (1, 2)])
        self.assertEqual(web, full(3))

    def test_an_empty_list_is_the_askers_own(self):
        told = all_crowds(bare(3))
        self.assertIsNot(told, all_crowds(bare(3)))
        told.append((0, 1))
        self.assertEqual(all_crowds(bare(3)), [])
        all_crowds((0, ())).append((0, 1))
        self.assertEqual(all_crowds((0, ())), [])


if __name__ == "__main__":
    unittest.main()
