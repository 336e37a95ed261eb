import unittest
from itertools import permutations

from helper import (BOW, EIGHT_SIDED, KITE, NET, WHEEL_OF_FIVE, WHEEL_OF_FOUR, bare, beside, check_no_number,
                    check_no_web, check_too_many_places, full, moved, named_webs, one_of_each_kind, pairs_of, ring, row,
                    star, webs_of)
from tiewebs.counts import all_webs, first_alike, kinds_many, kinds_of, tie_webs_many
from tiewebs.errors import NoNumber, TooGreat
from tiewebs.maps import map_to
from tiewebs.sharings import all_sharings
from tiewebs.webs import is_web

# A web that is the same under its own numbers alone.
LOPSIDED = (6, ((0, 1), (1, 2), (1, 3), (2, 3), (3, 4), (4, 5)))


def webs_by_bits(many):
    """All webs of so many places, by the bits of numbers."""
    pairs = pairs_of(many)
    return [(many, tuple([pair for at, pair in enumerate(pairs) if number >> at & 1]))
            for number in range(1 << len(pairs))]


def first_by_all(web):
    """The first of all webs that are the same under other numbers, by going through all numberings."""
    return min([moved(web, places) for places in permutations(range(web[0]))])


def check_own_list(case, ask):
    """Changing what ask(many) told changes no later answer."""
    for many in range(5):
        told, before = ask(many), ask(many)
        case.assertIs(type(told), list)
        case.assertIsNot(told, before)
        told[0] = None
        told.append(None)
        with case.assertRaises(NoNumber):
            ask(5)
        case.assertEqual(ask(many), before)


class AllWebs(unittest.TestCase):
    def test_told_by_hand(self):
        self.assertEqual(all_webs(0), [(0, ())])
        self.assertEqual(all_webs(1), [(1, ())])
        self.assertEqual(all_webs(2), [(2, ()), (2, ((0, 1),))])
        self.assertEqual(all_webs(3), [
            (3, ()), (3, ((0, 1),)), (3, ((0, 1), (0, 2))), (3, ((0, 1), (0, 2), (1, 2))), (3, ((0, 1), (1, 2))),
            (3, ((0, 2),)), (3, ((0, 2), (1, 2))), (3, ((1, 2),))])

    def test_all_sets_of_ties(self):
        for many in range(5):
            told = all_webs(many)
            self.assertEqual(told, sorted(webs_by_bits(many)))
            self.assertEqual(told, sorted(webs_of(many)))
            self.assertEqual(len(told), (1, 1, 2, 8, 64)[many])
            for web in told:
                self.assertIs(is_web(web), True)

    def test_they_rise(self):
        for many in range(5):
            told = all_webs(many)
            for ahead, behind in zip(told, told[1:]):
                self.assertLess(ahead, behind)

    def test_no_number(self):
        check_no_number(self, all_webs, 4)

    def test_the_list_is_the_askers_own(self):
        check_own_list(self, all_webs)


class TieWebsMany(unittest.TestCase):
    def test_told_by_hand(self):
        self.assertEqual(tie_webs_many(0), [1])
        self.assertEqual(tie_webs_many(1), [1])
        self.assertEqual(tie_webs_many(2), [1, 1])
        self.assertEqual(tie_webs_many(3), [1, 3, 3, 1])
        # Of four places all webs but the four stars of three ties.
        self.assertEqual(tie_webs_many(4), [1, 6, 15, 20 - 4, 15, 6, 1])

    def test_by_looking_for_sharings(self):
        for many in range(5):
            counted = [0] * (len(pairs_of(many)) + 1)
            for web in webs_by_bits(many):
                if all_sharings(web) != []:
                    counted[len(web[1])] += 1
            self.assertEqual(tie_webs_many(many), counted)

    def test_by_the_names_of_all_roots(self):
        for many in range(5):
            sizes = [len(web[1]) for web in named_webs(many)]
            self.assertEqual(tie_webs_many(many), [sizes.count(size) for size in range(len(pairs_of(many)) + 1)])

    def test_no_number(self):
        check_no_number(self, tie_webs_many, 4)

    def test_the_list_is_the_askers_own(self):
        check_own_list(self, tie_webs_many)


class FirstAlike(unittest.TestCase):
    def test_told_by_hand(self):
        self.assertEqual(first_alike((3, ((1, 2),))), (3, ((0, 1),)))
        self.assertEqual(first_alike(row(3)), (3, ((0, 1), (0, 2))))
        self.assertEqual(first_alike(row(4)), (4, ((0, 1), (0, 2), (1, 3))))
        self.assertEqual(first_alike((4, ((0, 3), (1, 3), (2, 3)))), star(4))
        self.assertEqual(first_alike((4, ((0, 2), (1, 3)))), (4, ((0, 1), (2, 3))))
        self.assertEqual(first_alike(ring(6)), (6, ((0, 1), (0, 2), (1, 3), (2, 4), (3, 5), (4, 5))))
        self.assertEqual(first_alike((6, ((4, 5),))), (6, ((0, 1),)))

    def test_no_ties_and_all(self):
        for many in range(7):
            self.assertEqual(first_alike(bare(many)), bare(many))
            self.assertEqual(first_alike(full(many)), full(many))

    def test_all_webs_of_few_places(self):
        for many in range(5):
            for web in webs_of(many):
                told = first_alike(web)
                self.assertEqual(told, first_by_all(web), web)
                self.assertIs(is_web(told), True)
                self.assertIsNotNone(map_to(web, told))

    def test_webs_of_five_and_six_places(self):
        webs = webs_of(5)[::29] + webs_of(6)[::1201] + one_of_each_kind(6)[::5]
        for web in webs + [KITE, BOW, NET, EIGHT_SIDED, WHEEL_OF_FOUR, WHEEL_OF_FIVE, ring(6), row(6), star(6),
                           beside(full(3), full(3)), beside(bare(2), KITE)]:
            self.assertEqual(first_alike(web), first_by_all(web), web)

    def test_the_same_of_all_numberings(self):
        for web in (LOPSIDED, KITE, NET, row(5)):
            told = first_alike(web)
            for places in list(permutations(range(web[0])))[::17]:
                self.assertEqual(first_alike(moved(web, places)), told)

    def test_six_places_and_more(self):
        check_too_many_places(self, first_alike, 6)

    def test_no_web(self):
        check_no_web(self, first_alike)

    def test_the_same_again(self):
        web = moved(LOPSIDED, (4, 2, 0, 5, 3, 1))
        before = moved(LOPSIDED, (4, 2, 0, 5, 3, 1))
        told = first_alike(web)
        with self.assertRaises(TooGreat):
            first_alike(bare(7))
        self.assertEqual(first_alike(web), told)
        self.assertEqual(web, before)


class KindsOf(unittest.TestCase):
    def test_told_by_hand(self):
        self.assertEqual(kinds_of(0), [(0, ())])
        self.assertEqual(kinds_of(1), [(1, ())])
        self.assertEqual(kinds_of(2), [(2, ()), (2, ((0, 1),))])
        self.assertEqual(kinds_of(3), [(3, ()), (3, ((0, 1),)), (3, ((0, 1), (0, 2))), full(3)])

    def test_by_going_through_all_numberings(self):
        for many in range(5):
            told = kinds_of(many)
            self.assertEqual(told, sorted({first_by_all(web) for web in webs_by_bits(many)}))
            self.assertEqual(len(told), (1, 1, 2, 4, 11)[many])

    def test_no_two_are_alike_and_each_web_is_alike_with_one(self):
        for many in range(5):
            told = kinds_of(many)
            for web in webs_of(many):
                self.assertEqual(len([kind for kind in told if map_to(kind, web) is not None]), 1, web)

    def test_no_number(self):
        check_no_number(self, kinds_of, 4)

    def test_the_list_is_the_askers_own(self):
        check_own_list(self, kinds_of)


class KindsMany(unittest.TestCase):
    def test_told_by_hand(self):
        self.assertEqual(kinds_many(0), [1])
        self.assertEqual(kinds_many(1), [1])
        self.assertEqual(kinds_many(2), [1, 1])
        self.assertEqual(kinds_many(3), [1, 3, 3, 1])

    def test_in_the_order_of_the_kinds(self):
        for many in range(5):
            webs = webs_by_bits(many)
            for kind, counted in zip(kinds_of(many), kinds_many(many), strict=True):
                self.assertEqual(counted, len({moved(kind, places) for places in permutations(range(many))}), kind)
                self.assertEqual(counted, len([web for web in webs if map_to(kind, web) is not None]), kind)

    def test_they_come_to_as_many_as_all_webs(self):
        for many in range(5):
            self.assertEqual(sum(kinds_many(many)), len(all_webs(many)))
            self.assertEqual(sum(kinds_many(many)), (1, 1, 2, 8, 64)[many])

    def test_no_number(self):
        check_no_number(self, kinds_many, 4)

    def test_the_list_is_the_askers_own(self):
        check_own_list(self, kinds_many)


if __name__ == "__main__":
    unittest.main()
