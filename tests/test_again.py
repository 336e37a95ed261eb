import unittest
from itertools import permutations

from helper import (BOW, EIGHT_SIDED, KITE, NET, WHEEL_OF_FIVE, WHEEL_OF_FOUR, bare, beside, check_no_number,
                    check_no_web, full, moved, no_numbers, one_of_each_kind, pairs_of, ring, row, scattered, star,
                    web_named, webs_of, without)
from tiewebs.again import fate, made_again, sizes_ahead
from tiewebs.errors import NoNumber, NotJoined, TooGreat
from tiewebs.maps import map_to
from tiewebs.webs import degrees, is_web, pieces

# A star of three ties, one of them with a tie more; a ring with a tie more within it, and with one more place.
LONG_ARM = (5, ((0, 1), (0, 2), (0, 3), (3, 4)))
RING_AND_TIE = (5, tuple(sorted(ring(5)[1] + ((0, 2),))))
RING_AND_TAIL = (6, tuple(sorted(ring(5)[1] + ((2, 5),))))


def tie_web_of(web):
    """The tie web of a web of however many ties."""
    return web_named(web[1])


def some_webs():
    """Webs that go, stay and grow, of one piece and of more, with few ties and many."""
    found = [bare(0), bare(1), bare(14), row(2), row(7), row(8), row(9), row(14), ring(3), ring(7), ring(8), ring(14),
             star(4), star(5), star(7), star(8), star(9), star(14), full(4), full(5), full(7), full(14), KITE, BOW, NET,
             EIGHT_SIDED, WHEEL_OF_FOUR, WHEEL_OF_FIVE, LONG_ARM, RING_AND_TIE, RING_AND_TAIL, beside(row(5), ring(3)),
             beside(star(4), row(4)), beside(bare(3), row(2)), beside(ring(3), ring(4)),
             (14, ((3, 7), (4, 7), (7, 13)))]
    for many in range(4, 15):
        found.extend(scattered(many, 3, 1) + scattered(many, 2, 3))
    return found + [web for many in range(4) for web in webs_of(many)] + webs_of(4)[::3] + webs_of(5)[::37]


class MadeAgain(unittest.TestCase):
    def test_each_number_of_times(self):
        for times in range(7):
            for many in range(9):
                self.assertEqual(made_again(row(many), times), row(many - times) if times < many else (0, ()))
            for many in range(3, 8):
                told = made_again(ring(many), times)
                self.assertEqual((told[0], len(told[1]), degrees(told)), (many, many, [2] * many))
                self.assertEqual(len(pieces(told)), 1)
            self.assertEqual(made_again(bare(14), times), bare(14) if times == 0 else (0, ()))
            self.assertEqual(made_again(star(4), times), star(4) if times == 0 else full(3))

    def test_no_times_of_any_web(self):
        for web in some_webs():
            self.assertEqual(made_again(web, 0), web)

    def test_webs_that_grow(self):
        self.assertEqual(made_again(KITE, 1), (5, ((0, 1), (0, 2), (0, 3), (1, 2), (1, 4), (2, 3), (2, 4), (3, 4))))
        self.assertEqual(made_again(LONG_ARM, 1), (4, ((0, 1), (0, 2), (1, 2), (2, 3))))
        self.assertEqual(made_again(LONG_ARM, 2), (4, ((0, 1), (0, 2), (1, 2), (1, 3), (2, 3))))
        self.assertEqual(made_again(LONG_ARM, 3)[0], 5)
        self.assertEqual(made_again(star(8), 1), full(7))

    def test_too_great(self):
        for web, times, many in [(row(9), 1, 8), (row(9), 6, 8), (star(9), 1, 8), (full(14), 1, 91), (full(5), 3, 10),
                                 (star(8), 2, 21), (star(7), 2, 15), (star(7), 6, 15), (LONG_ARM, 4, 8),
                                 (LONG_ARM, 6, 8), (KITE, 2, 8), (NET, 2, 9), (full(4), 2, 12),
                                 (ring(14), 1, 14), (star(5), 3, 12)]:
            with self.subTest(web=web, times=times):
                with self.assertRaises(TooGreat) as caught:
                    made_again(web, times)
                self.assertEqual((caught.exception.many, caught.exception.most), (many, 7))

    def test_what_is_not_made_is_not_refused(self):
        for web, times in [(row(9), 0), (full(14), 0), (star(8), 1), (star(7), 1), (LONG_ARM, 3), (KITE, 1), (NET, 1),
                           (full(4), 1), (star(5), 2)]:
            told = made_again(web, times)
            self.assertIs(is_web(told), True)
            self.assertGreater(len(told[1]), 7)
            with self.assertRaises(TooGreat) as caught:
                made_again(web, times + 1)
            self.assertEqual((caught.exception.many, caught.exception.most), (len(told[1]), 7))

    def test_webs_of_many_sorts(self):
        for web in some_webs():
            made, refused = web, None
            for times in range(7):
                if refused is None:
                    self.assertEqual(made_again(web, times), made, (web, times))
                else:
                    with self.assertRaises(TooGreat) as caught:
                        made_again(web, times)
                    self.assertEqual((caught.exception.many, caught.exception.most), (refused, 7), (web, times))
                if refused is None and len(made[1]) > 7:
                    refused = len(made[1])
                if refused is None:
                    made = tie_web_of(made)

    def test_what_is_made_has_the_sizes_that_are_told_ahead(self):
        for web in some_webs():
            sizes = sizes_ahead(web)
            if sizes[1] <= 7:
                once = made_again(web, 1)
                self.assertEqual([once[0], len(once[1])], sizes[1:3], web)
                self.assertEqual(sizes_ahead(once)[:3], sizes[1:], web)
                if sizes[2] <= 7:
                    twice = made_again(web, 2)
                    self.assertEqual([twice[0], len(twice[1])], sizes[2:], web)
                    self.assertEqual(sizes_ahead(twice)[:2], sizes[2:], web)

    def test_no_number(self):
        for web in (bare(0), row(7), star(4)):
            check_no_number(self, lambda thing, web=web: made_again(web, thing), 6)
        for thing in (-1, 7, 8, True, False, None, "1", (1,), [0], 1.0):
            with self.subTest(thing=thing), self.assertRaises(NoNumber):
                made_again(row(3), thing)

    def test_no_number_goes_ahead_of_too_great(self):
        for web in (full(14), row(9), star(8)):
            for thing in no_numbers(6):
                with self.subTest(web=web, thing=thing), self.assertRaises(NoNumber):
                    made_again(web, thing)

    def test_no_web_goes_ahead(self):
        for times in (0, 1, 6, 7, -1, None, True, "a", []):
            check_no_web(self, lambda web, times=times: made_again(web, times))

    def test_the_same_again(self):
        web = (6, LONG_ARM[1])
        told = made_again(web, 3)
        with self.assertRaises(TooGreat):
            made_again(web, 4)
        with self.assertRaises(NoNumber):
            made_again(web, 7)
        self.assertEqual(made_again(web, 3), told)
        self.assertEqual(web, (6, LONG_ARM[1]))


class SizesAhead(unittest.TestCase):
    def test_told_by_hand(self):
        self.assertEqual(sizes_ahead((0, ())), [0, 0, 0, 0])
        self.assertEqual(sizes_ahead((1, ())), [1, 0, 0, 0])
        self.assertEqual(sizes_ahead(row(2)), [2, 1, 0, 0])
        self.assertEqual(sizes_ahead(row(5)), [5, 4, 3, 2])
        self.assertEqual(sizes_ahead(ring(6)), [6, 6, 6, 6])
        self.assertEqual(sizes_ahead(star(4)), [4, 3, 3, 3])
        self.assertEqual(sizes_ahead(star(5)), [5, 4, 6, 12])
        self.assertEqual(sizes_ahead(full(4)), [4, 6, 12, 36])
        self.assertEqual(sizes_ahead(LONG_ARM), [5, 4, 4, 5])
        self.assertEqual(sizes_ahead((14, ((0, 1), (2, 3)))), [14, 2, 0, 0])

    def test_the_greatest_web(self):
        # Each tie of all ties of fourteen places meets 24 others.
        self.assertEqual(sizes_ahead(full(14)), [14, 91, 91 * 24 // 2, 91 * 24 * 23 // 2])
        self.assertEqual(sizes_ahead(star(14)), [14, 13, 78, 13 * 12 * 11 // 2])

    def check(self, web):
        once = tie_web_of(web)
        told = sizes_ahead(web)
        self.assertIs(type(told), list)
        self.assertEqual({type(number) for number in told}, {int})
        self.assertEqual(told, [web[0], len(web[1]), len(once[1]), len(tie_web_of(once)[1])], web)

    def test_webs_of_many_sorts(self):
        for web in some_webs():
            if len(web[1]) < 40:
                self.check(web)
        for many in range(6, 15):
            for web in scattered(many, 2, 2) + [row(many), ring(many), star(many), bare(many)]:
                self.check(web)

    def test_all_webs_of_few_places(self):
        for many in range(5):
            for web in webs_of(many):
                self.check(web)

    def test_webs_with_many_ties(self):
        for web in (full(7), full(8), full(14), without(full(9), (0, 3), (1, 7), (2, 8)), scattered(12, 1, 6)[0]):
            self.check(web)

    def test_no_web(self):
        check_no_web(self, sizes_ahead)

    def test_the_list_is_the_askers_own(self):
        for web in (star(5), bare(0), full(14)):
            told, before = sizes_ahead(web), sizes_ahead(web)
            self.assertIsNot(told, before)
            told[0] = None
            told.append(1)
            self.assertEqual(sizes_ahead(web), before)


class Fate(unittest.TestCase):
    def test_no_place_and_one(self):
        self.assertEqual(fate((0, ())), ("gone", 0))
        self.assertEqual(fate((1, ())), ("gone", 1))

    def orders_of(self, many):
        plain = tuple(range(many))
        return [plain, plain[::-1], plain[1::2] + plain[::2], plain[many // 2:] + plain[:many // 2],
                plain[2:] + plain[:2]]

    def test_rows(self):
        for many in range(2, 15):
            for places in self.orders_of(many):
                self.assertEqual(fate(moved(row(many), places)), ("gone", many))

    def test_rings(self):
        for many in range(3, 15):
            for places in self.orders_of(many):
                self.assertEqual(fate(moved(ring(many), places)), ("stays", many))

    def test_stars(self):
        for places in permutations(range(4)):
            self.assertEqual(fate(moved(star(4), places)), ("stays", 3))
        for many in range(5, 15):
            for places in self.orders_of(many):
                self.assertEqual(fate(moved(star(many), places)), ("grows",))

    def test_all_others_grow(self):
        for web in (LONG_ARM, RING_AND_TIE, RING_AND_TAIL, KITE, BOW, NET, full(4), full(14), WHEEL_OF_FOUR,
                    WHEEL_OF_FIVE, EIGHT_SIDED, (4, ((0, 1), (0, 2), (1, 2), (2, 3))),
                    (14, tuple(sorted(row(13)[1] + ((1, 13),)))),
                    (14, tuple(sorted(ring(13)[1] + ((0, 13),)))), (14, tuple(sorted(ring(14)[1] + ((0, 7),))))):
            for places in self.orders_of(web[0]):
                self.assertEqual(fate(moved(web, places)), ("grows",), web)

    def check(self, web):
        """What is told comes true where the tie webs are made, however many ties they have."""
        told = fate(web)
        self.assertIs(type(told), tuple)
        made, sizes = web, [web[0]]
        # Tie webs of more than thirty ties are not made: they are as great as is needed to see that they grow.
        while len(sizes) < 20 and len(made[1]) <= 30 and made[0] > 0:
            made = tie_web_of(made)
            sizes.append(made[0])
        if made[0] == 0:
            self.assertEqual(told, ("gone", len(sizes) - 1), web)
        elif len(made[1]) > 30:
            self.assertEqual(told, ("grows",), web)
        else:
            self.assertEqual(degrees(made), [2] * made[0])
            self.assertEqual(told, ("stays", made[0]), web)

    def test_it_comes_true_of_all_joined_webs_of_few_places(self):
        for many in range(6):
            for web in one_of_each_kind(many):
                if len(pieces(web)) < 2:
                    self.check(web)

    def test_it_comes_true_of_webs_of_more_places(self):
        for web in some_webs() + [ring(many) for many in range(6, 15)] + [row(many) for many in range(6, 15)]:
            if len(pieces(web)) < 2 and len(web[1]) <= 30:
                self.check(web)
        for many in range(5, 15):
            # All ways to tie one place more to a row and to a ring, but at one end of the row.
            for at in range(many - 1):
                for web in (row(many - 1), ring(many - 1)):
                    self.check((many, tuple(sorted(web[1] + ((at, many - 1),)))))
        for pair in pairs_of(8):
            if pair not in ring(8)[1]:
                self.check((8, tuple(sorted(ring(8)[1] + (pair,)))))

    def test_it_comes_true_by_what_is_made_again(self):
        for web in some_webs():
            if len(pieces(web)) < 2 and len(web[1]) <= 7:
                told = fate(web)
                for times in range(7):
                    try:
                        made = made_again(web, times)
                    except TooGreat:
                        self.assertEqual(told, ("grows",), web)
                        break
                    if told[0] == "gone":
                        self.assertIs(made[0] == 0, times >= told[1], (web, times))
                    elif told[0] == "stays" and times > 0:
                        self.assertIsNotNone(map_to(made, ring(told[1])), (web, times))
                    else:
                        self.assertGreater(made[0], 0)

    def test_more_pieces(self):
        for web in [bare(2), bare(14), beside(row(2), bare(1)), beside(bare(1), row(2)), beside(ring(3), ring(3)),
                    beside(star(4), bare(1)), beside(row(3), row(4)), beside(full(7), full(7)), (14, ring(13)[1]),
                    beside(ring(7), ring(7)), (14, row(13)[1]), beside(bare(1), star(13)), beside(star(4), ring(4))]:
            with self.subTest(web=web), self.assertRaises(NotJoined):
                fate(web)

    def test_all_webs_of_four_places(self):
        for web in webs_of(4):
            if len(pieces(web)) > 1:
                with self.subTest(web=web), self.assertRaises(NotJoined):
                    fate(web)
            else:
                self.check(web)

    def test_no_web(self):
        check_no_web(self, fate)

    def test_the_same_again(self):
        told = fate(row(5))
        with self.assertRaises(NotJoined):
            fate(bare(2))
        self.assertEqual(fate(row(5)), told)


if __name__ == "__main__":
    unittest.main()
