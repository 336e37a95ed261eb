import unittest
from itertools import combinations

from helper import (BARRED, BOW, EIGHT_SIDED, KITE, NET, WHEEL_OF_FIVE, WHEEL_OF_FOUR, bare, beside, check_no_web,
                    check_too_many_places, full, moved, named_webs, pairs_of, ring, row, scattered, star, web_named,
                    webs_of, without)
from tiewebs.errors import TooGreat
from tiewebs.midsts import end_web, midst_web, put_in, whole_web
from tiewebs.sharings import all_sharings
from tiewebs.ties import tie_web
from tiewebs.webs import degrees, is_web, within

# All tie webs of so many places, by going through the names of all roots.
TIE_WEBS = [named_webs(many) for many in range(6)]


def roomy_webs():
    """Webs of all numbers of places that have with their ties at most fourteen places."""
    found = [web for many in range(4) for web in webs_of(many)] + webs_of(4) + webs_of(5)[::9]
    for many in range(15):
        found.append(bare(many))
        for eighths in (1, 2, 4):
            found.extend(scattered(many, 4, eighths))
    found.extend([row(7), ring(7), star(7), row(4), full(4), KITE, NET, BOW, (13, ((11, 12),)), (10, ((0, 9), (2, 5)))])
    return [web for web in found if web[0] + len(web[1]) <= 14]


def cramped_webs():
    """Webs that have with their ties more than fourteen places."""
    return [(14, ((0, 1),)), (14, ((12, 13),)), (13, ((0, 1), (0, 2))), (7, full(7)[1][:8]), star(8), row(8), ring(8),
            full(5), full(14), row(14), ring(14), star(14), WHEEL_OF_FIVE, EIGHT_SIDED, (10, ring(5)[1])]


def check_cramped(case, ask):
    for web in cramped_webs():
        with case.subTest(web=web):
            with case.assertRaises(TooGreat) as caught:
                ask(web)
            case.assertEqual((caught.exception.many, caught.exception.most), (web[0] + len(web[1]), 14))


def midst_by_sets(web):
    many, ties = web
    return [{place, many + number} for number, tie in enumerate(ties) for place in tie]


def whole_by_sets(web):
    """The ties of the whole web: two places touch where they are tied, other things where they have one in common."""
    things = [{place} for place in range(web[0])] + [set(tie) for tie in web[1]]
    found = []
    for low, high in pairs_of(len(things)):
        if len(things[low]) == len(things[high]) == 1:
            touch = (low, high) in web[1]
        else:
            touch = bool(things[low] & things[high])
        if touch:
            found.append({low, high})
    return found


def as_web(many, sets):
    return (many, tuple(sorted([tuple(sorted(some)) for some in sets])))


class MidstWeb(unittest.TestCase):
    def test_told_by_hand(self):
        self.assertEqual(midst_web(row(2)), (3, ((0, 2), (1, 2))))
        self.assertEqual(midst_web(row(3)), (5, ((0, 3), (1, 3), (1, 4), (2, 4))))
        self.assertEqual(midst_web(full(3)), (6, ((0, 3), (0, 4), (1, 3), (1, 5), (2, 4), (2, 5))))
        self.assertEqual(midst_web((4, ((1, 3),))), (5, ((1, 4), (3, 4))))

    def test_no_ties_and_no_places(self):
        for many in range(15):
            self.assertEqual(midst_web(bare(many)), bare(many))

    def test_webs_of_many_sorts(self):
        for web in roomy_webs():
            told = midst_web(web)
            self.assertIs(is_web(told), True)
            self.assertEqual(told, as_web(web[0] + len(web[1]), midst_by_sets(web)), web)

    def test_fourteen_places(self):
        self.assertEqual(midst_web(ring(7))[0], 14)
        self.assertEqual(midst_web((13, ((11, 12),))), (14, ((11, 13), (12, 13))))
        self.assertEqual(midst_web((7, full(7)[1][:7]))[0], 14)
        self.assertEqual(midst_web((5, full(5)[1][:9]))[0], 14)
        self.assertEqual(degrees(midst_web((5, full(5)[1][:9])))[5:], [2] * 9)

    def test_fifteen_places_and_more(self):
        check_cramped(self, midst_web)

    def test_no_web(self):
        check_no_web(self, midst_web)

    def test_the_same_again(self):
        web = (5, KITE[1])
        told = midst_web(web)
        with self.assertRaises(TooGreat):
            midst_web(full(5))
        self.assertEqual(midst_web(web), told)
        self.assertEqual(web, (5, KITE[1]))


class WholeWeb(unittest.TestCase):
    def test_told_by_hand(self):
        self.assertEqual(whole_web(row(2)), full(3))
        self.assertEqual(whole_web(row(3)), (5, ((0, 1), (0, 3), (1, 2), (1, 3), (1, 4), (2, 4), (3, 4))))
        self.assertEqual(whole_web((4, ((0, 1), (2, 3)))),
                         (6, ((0, 1), (0, 4), (1, 4), (2, 3), (2, 5), (3, 5))))
        self.assertEqual(whole_web((4, ((1, 3),))), (5, ((1, 3), (1, 4), (3, 4))))

    def test_no_ties_and_no_places(self):
        for many in range(15):
            self.assertEqual(whole_web(bare(many)), bare(many))

    def test_webs_of_many_sorts(self):
        for web in roomy_webs():
            told = whole_web(web)
            self.assertIs(is_web(told), True)
            self.assertEqual(told, as_web(web[0] + len(web[1]), whole_by_sets(web)), web)

    def test_it_has_the_web_the_tie_web_and_the_midst_web_in_it(self):
        for web in roomy_webs():
            many = web[0] + len(web[1])
            told = whole_web(web)
            self.assertEqual(within(told, tuple(range(web[0]))), web)
            if len(web[1]) <= 7:
                self.assertEqual(within(told, tuple(range(web[0], many))), tie_web(web))
            between = tuple([tie for tie in told[1] if tie[0] < web[0] <= tie[1]])
            self.assertEqual((many, between), midst_web(web))

    def test_fourteen_places(self):
        self.assertEqual(whole_web((13, ((11, 12),))), (14, ((11, 12), (11, 13), (12, 13))))
        self.assertEqual(whole_web(ring(7))[0], 14)
        self.assertEqual(degrees(whole_web(ring(7))), [4] * 14)
        self.assertEqual(whole_web((5, full(5)[1][:9]))[0], 14)

    def test_fifteen_places_and_more(self):
        check_cramped(self, whole_web)

    def test_no_web(self):
        check_no_web(self, whole_web)

    def test_the_same_again(self):
        web = (5, KITE[1])
        told = whole_web(web)
        with self.assertRaises(TooGreat):
            whole_web(full(5))
        self.assertEqual(whole_web(web), told)
        self.assertEqual(web, (5, KITE[1]))


class EndWeb(unittest.TestCase):
    def test_told_by_hand(self):
        self.assertEqual(end_web(row(2)), row(2))
        self.assertEqual(end_web(row(3)), row(4))
        self.assertEqual(end_web(star(4)), (6, ((0, 1), (0, 2), (0, 4), (2, 3), (2, 4), (4, 5))))
        self.assertEqual(end_web(full(3)), (6, ((0, 1), (0, 2), (1, 4), (2, 3), (3, 5), (4, 5))))
        self.assertEqual(end_web((6, ((0, 1), (3, 5)))), (4, ((0, 1), (2, 3))))

    def test_no_ties(self):
        for many in range(15):
            self.assertEqual(end_web(bare(many)), (0, ()))

    def webs(self):
        found = [web for many in range(5) for web in webs_of(many)] + webs_of(5)[::5] + webs_of(6)[:9000:97]
        for many in range(7, 15):
            pairs = pairs_of(many)
            found.extend([(many, tuple(pairs[:7])), (many, tuple(pairs[-7:])), (many, tuple(pairs[3::13]))])
            found.extend(scattered(many, 5, 1))
        return [web for web in found if len(web[1]) <= 7] + [ring(7), row(8), star(8), (14, ring(7)[1])]

    def test_ends_one_by_one(self):
        for web in self.webs():
            ends = [(tie, end) for tie in web[1] for end in tie]
            ties = tuple([(low, high) for low, high in pairs_of(len(ends))
                          if ends[low][0] == ends[high][0] or ends[low][1] == ends[high][1]])
            told = end_web(web)
            self.assertEqual(told, (2 * len(web[1]), ties), web)
            self.assertIs(is_web(told), True)

    def test_under_other_numbers_it_is_the_tie_web_of_the_midst_web(self):
        for web in self.webs():
            many, ties = web
            midst = sorted([(place, many + number) for number, tie in enumerate(ties) for place in tie])
            if many + len(ties) <= 14:
                self.assertEqual(list(midst_web(web)[1]), midst)
            if len(midst) <= 7:
                made = tie_web((many + len(ties), tuple(midst)))
            else:
                made = web_named(midst)
            places = [2 * (high - many) + ties[high - many].index(low) for low, high in midst]
            self.assertEqual(end_web(web), moved(made, places), web)

    def test_seven_ties(self):
        self.assertEqual(end_web(row(8)), row(14))
        self.assertEqual(degrees(end_web(ring(7))), [2] * 14)
        self.assertEqual(end_web(star(8))[0], 14)
        self.assertEqual(end_web((14, tuple([(2 * at, 2 * at + 1) for at in range(7)]))),
                         (14, tuple([(2 * at, 2 * at + 1) for at in range(7)])))

    def test_eight_ties_and_more(self):
        for web in [row(9), ring(8), star(9), WHEEL_OF_FOUR, WHEEL_OF_FIVE, full(5), full(7), full(14), row(14),
                    (14, full(14)[1][:8]), (5, full(5)[1][:8]), (14, full(14)[1][-9:])]:
            with self.subTest(web=web):
                with self.assertRaises(TooGreat) as caught:
                    end_web(web)
                self.assertEqual((caught.exception.many, caught.exception.most), (len(web[1]), 7))

    def test_no_web(self):
        check_no_web(self, end_web)

    def test_the_same_again(self):
        told = end_web(NET)
        with self.assertRaises(TooGreat):
            end_web(full(5))
        self.assertEqual(end_web(NET), told)


def put_in_by_all(web):
    """The ties to be put in, by going through all sets of those that are lacking."""
    lacking = [pair for pair in pairs_of(web[0]) if pair not in web[1]]
    sets = [some for size in range(len(lacking) + 1) for some in combinations(lacking, size)]
    enough = [some for some in sets if (web[0], tuple(sorted(web[1] + some))) in TIE_WEBS[web[0]]]
    return sorted(enough, key=lambda some: (len(some), some))[0]


class PutIn(unittest.TestCase):
    def test_told_by_hand(self):
        self.assertEqual(put_in(star(4)), ((1, 2),))
        self.assertEqual(put_in((4, ((0, 3), (1, 3), (2, 3)))), ((0, 1),))
        self.assertEqual(put_in(without(full(5), (3, 4))), ((3, 4),))
        self.assertEqual(put_in(without(full(5), (0, 1))), ((0, 1),))
        self.assertEqual(put_in(star(5)), ((1, 2), (3, 4)))

    def test_webs_that_are_tie_webs(self):
        for web in [bare(many) for many in range(6)] + [full(many) for many in range(6)] + [
                KITE, BOW, WHEEL_OF_FOUR, ring(5), row(5), (5, KITE[1])]:
            told = put_in(web)
            self.assertEqual(told, (), web)
            self.assertIs(type(told), tuple)

    def test_bars(self):
        for web in BARRED[:3]:
            self.assertEqual(put_in(web), put_in_by_all(web), web)
            self.assertEqual(len(put_in(web)), 1)

    def test_all_webs(self):
        for many in range(6):
            for web in webs_of(many):
                told = put_in(web)
                if web in TIE_WEBS[many]:
                    self.assertEqual(told, (), web)
                else:
                    self.assertEqual(told, put_in_by_all(web), web)
                    self.assertNotEqual(told, (), web)

    def test_what_is_told(self):
        for web in webs_of(5)[::7]:
            told = put_in(web)
            self.assertEqual({type(tie) for tie in told} | {tuple}, {tuple})
            self.assertEqual(list(told), sorted(told))
            self.assertEqual(set(told) & set(web[1]), set())
            self.assertNotEqual(all_sharings((web[0], tuple(sorted(web[1] + told)))), [])

    def test_six_places_and_more(self):
        check_too_many_places(self, put_in, 5)

    def test_no_web(self):
        check_no_web(self, put_in)

    def test_the_same_again(self):
        for web in (star(5), star(4), bare(0)):
            told = put_in(web)
            with self.assertRaises(TooGreat):
                put_in(star(6))
            self.assertEqual(put_in(web), told)


if __name__ == "__main__":
    unittest.main()
