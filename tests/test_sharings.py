import unittest
from copy import deepcopy
from itertools import combinations, permutations

from helper import (BOW, EIGHT_SIDED, KITE, NET, THIRTY, WHEEL_OF_FIVE, WHEEL_OF_FOUR, bare, beside, check_no_web,
                    check_too_many_places, foreign_things, full, moved, names_of, nested, odd_things, ring, row, star,
                    web_named, webs_of, without)
from tiewebs.crowds import all_crowds
from tiewebs.errors import NoSharing, TooGreat
from tiewebs.sharings import all_sharings, is_sharing, root_by
from tiewebs.ties import tie_web
from tiewebs.webs import is_web

THREES = beside(full(3), full(3))


def shares(web, crowds):
    """Whether crowds, each of them known to be one, share the ties of a web: by counting pairs and places."""
    pairs = [pair for crowd in crowds for pair in combinations(crowd, 2)]
    places = [place for crowd in crowds for place in crowd]
    return sorted(pairs) == list(web[1]) and all(places.count(place) <= 2 for place in range(web[0]))


def sharings_by_choice(web):
    """All sharings of a web, by looking at each choice of its crowds.

    Each crowd has two places or more, and each place is in two at most, so there are no more crowds than places."""
    crowds = all_crowds(web)
    choices = [list(some) for size in range(web[0] + 1) for some in combinations(crowds, size)]
    return sorted([some for some in choices if shares(web, some)])


def sharings_by_names(many):
    """For each web of so many places that has a root all its sharings, by going through the names of all roots."""
    found = {}
    for names in names_of(many):
        ends = sorted({end for name in names for end in name})
        groups = [tuple([place for place in range(many) if end in names[place]]) for end in ends]
        sharing = tuple(sorted([group for group in groups if len(group) > 1]))
        found.setdefault(web_named(names), set()).add(sharing)
    return {web: sorted([list(sharing) for sharing in sharings]) for web, sharings in found.items()}


def no_sharings_with_ties():
    """Things of which none is a sharing of any web with ties."""
    return odd_things() + foreign_things() + [
        0, 1, (), [()], [(0,)], [(0,), (1,)], [0, 1], [[0, 1]], [[0, 1, 2]], ["01"], [None], [True], [{}],
        [{0: 1}], [{0, 1}], [(0, True)], [(False, True)], [(False, 1)], [(0, "1")], [("0", "1")], [(0, None)],
        [(0, 1.0)], [(1, 0)], [(0, 0)], [(2, 1, 0)], [(-1, 0)], [(0, THIRTY)], [(-THIRTY, 0)], [(0, 99)],
        [((0, 1),)], [((0, 1), (0, 2))], [[(0, 1)]], [[[(0, 1)]]], ([(0, 1)],), ([],), {(0, 1): True}, {0: (0, 1)},
        {(0, 1)}, "[(0, 1)]", "0 1", (0, 1), ((0, 1),), ((0, 1, 2),), nested((0, 1), 11), [nested((0, 1), 11)],
        [(0, nested(1, 10))], [nested([], 11)], (nested([], 11),),
    ]


class IsSharing(unittest.TestCase):
    def test_told_by_hand(self):
        self.assertIs(is_sharing(KITE, [(0, 1), (0, 2), (1, 2, 3)]), True)
        self.assertIs(is_sharing(KITE, [(0, 1, 2), (1, 3), (2, 3)]), True)
        self.assertIs(is_sharing(KITE, [(0, 1, 2), (1, 2, 3)]), False)
        self.assertIs(is_sharing(KITE, [(0, 1), (0, 2), (1, 2), (1, 3), (2, 3)]), False)
        self.assertIs(is_sharing(BOW, [(0, 1, 2), (2, 3, 4)]), True)
        self.assertIs(is_sharing(full(3), [(0, 1, 2)]), True)
        self.assertIs(is_sharing(full(3), [(0, 1), (0, 2), (1, 2)]), True)

    def test_webs_without_ties(self):
        for many in range(8):
            self.assertIs(is_sharing(bare(many), []), True)
            for thing in [(), {}, "", None, 0, False, [()], [[]], [(0,)], [(0, 1)], ((),), set(), [(0, 1), (0, 2)]]:
                self.assertIs(is_sharing(bare(many), thing), False, (many, thing))

    def test_what_is_no_sharing_of_a_web_without_ties(self):
        for thing in no_sharings_with_ties():
            if thing != []:
                with self.subTest(thing=thing):
                    self.assertIs(is_sharing((0, ()), thing), False)
                    self.assertIs(is_sharing(bare(7), thing), False)

    def test_no_crowds_share_no_ties(self):
        for web in (row(2), row(3), full(3), star(4), (7, ((0, 1),))):
            self.assertIs(is_sharing(web, []), False, web)

    def test_a_crowd_out(self):
        for web in (KITE, BOW, NET, THREES, EIGHT_SIDED, ring(7), row(7), full(7)):
            for sharing in all_sharings(web):
                self.assertIs(is_sharing(web, sharing), True)
                for at in range(len(sharing)):
                    self.assertIs(is_sharing(web, sharing[:at] + sharing[at + 1:]), False, (web, sharing, at))

    def test_a_crowd_in(self):
        for web in (KITE, BOW, NET, THREES, EIGHT_SIDED, ring(7), row(7), full(5), (4, ((0, 1),))):
            for sharing in all_sharings(web):
                for crowd in all_crowds(web) + [(0,), (), (0, 2, 9)]:
                    if crowd not in sharing:
                        self.assertIs(is_sharing(web, sorted(sharing + [crowd])), False, (web, sharing, crowd))

    def test_a_crowd_twice(self):
        for web in (row(2), full(3), BOW, NET, ring(7)):
            for sharing in all_sharings(web):
                for at in range(len(sharing)):
                    self.assertIs(is_sharing(web, sharing[:at] + [sharing[at]] + sharing[at:]), False)
                    self.assertIs(is_sharing(web, sharing + [sharing[at]]), False)

    def test_a_crowd_parted(self):
        self.assertIs(is_sharing(BOW, [(0, 1), (0, 2), (1, 2), (2, 3, 4)]), False)
        self.assertIs(is_sharing(full(4), [(0, 1), (0, 2, 3), (1, 2, 3)]), False)
        self.assertIs(is_sharing(full(4), [(0, 1, 2), (0, 3), (1, 3), (2, 3)]), False)
        # A three alone may be parted, which makes another sharing.
        self.assertIs(is_sharing(THREES, [(0, 1, 2), (3, 4), (3, 5), (4, 5)]), True)
        for web in (full(4), full(5), full(6), full(7)):
            self.assertIs(is_sharing(web, list(web[1])), False, web)

    def test_two_crowds_exchanged(self):
        for web in (row(3), KITE, BOW, NET, THREES, EIGHT_SIDED, ring(7)):
            for sharing in all_sharings(web):
                for one, other in combinations(range(len(sharing)), 2):
                    turned = list(sharing)
                    turned[one], turned[other] = turned[other], turned[one]
                    self.assertIs(is_sharing(web, turned), False, (web, turned))

    def test_each_order_of_three_crowds(self):
        rising = [(0, 1), (0, 2), (1, 2, 3)]
        for crowds in permutations(rising):
            self.assertIs(is_sharing(KITE, list(crowds)), list(crowds) == rising, crowds)

    def test_a_place_in_three_crowds(self):
        self.assertIs(is_sharing(star(4), list(star(4)[1])), False)
        self.assertIs(is_sharing(star(3), list(star(3)[1])), True)
        self.assertIs(is_sharing(star(7), list(star(7)[1])), False)
        for many in range(2, 7):
            turned = moved(star(many + 1), tuple(range(many, -1, -1)))
            self.assertIs(is_sharing(turned, list(turned[1])), many == 2, many)
        for middle in range(4):
            web = (4, tuple(sorted([tuple(sorted((middle, other))) for other in range(4) if other != middle])))
            self.assertIs(is_sharing(web, list(web[1])), False, web)

    def test_a_tie_in_two_crowds(self):
        self.assertIs(is_sharing(KITE, [(0, 1), (0, 1, 2), (1, 3), (2, 3)]), False)
        self.assertIs(is_sharing(KITE, [(0, 1, 2), (1, 2, 3)]), False)
        self.assertIs(is_sharing(row(3), [(0, 1), (0, 1), (1, 2)]), False)
        self.assertIs(is_sharing(full(3), [(0, 1), (0, 1, 2)]), False)

    def test_crowds_that_are_none(self):
        self.assertIs(is_sharing(ring(4), [(0, 1, 2, 3)]), False)
        self.assertIs(is_sharing(row(3), [(0, 1, 2)]), False)
        self.assertIs(is_sharing(KITE, [(0, 1, 2), (0, 3), (1, 3), (2, 3)]), False)
        self.assertIs(is_sharing(row(3), [(0,), (0, 1), (1, 2)]), False)
        self.assertIs(is_sharing(row(3), [(), (0, 1), (1, 2)]), False)
        self.assertIs(is_sharing(row(3), [(0, 1), (1, 2), (2,)]), False)
        self.assertIs(is_sharing(row(3), [(0, 1), (1, 2), (2, 3)]), False)

    def test_a_tuple_in_the_lists_stead(self):
        for web in (row(2), full(3), KITE, ring(7)):
            for sharing in all_sharings(web):
                for thing in (tuple(sharing), dict(enumerate(sharing)), dict.fromkeys(sharing), str(sharing),
                              [sharing], (sharing,), set(sharing), iter(sharing)):
                    self.assertIs(is_sharing(web, thing), False, thing)

    def test_lists_in_the_crowds_stead(self):
        for web in (row(2), full(3), KITE, ring(7)):
            for sharing in all_sharings(web):
                self.assertIs(is_sharing(web, [list(crowd) for crowd in sharing]), False)
                for at, crowd in enumerate(sharing):
                    for thing in (list(crowd), (crowd,), [crowd], str(crowd), dict.fromkeys(crowd), set(crowd), None,
                                  crowd[::-1], crowd + (9,), crowd[:1], len(crowd), tuple(map(float, crowd)),
                                  tuple(map(str, crowd)), tuple(map(bool, crowd))):
                        handed = sharing[:at] + [thing] + sharing[at + 1:]
                        self.assertIs(is_sharing(web, handed), False, (web, handed))

    def test_truths_in_the_places_stead(self):
        self.assertIs(is_sharing(row(2), [(False, True)]), False)
        self.assertIs(is_sharing(row(3), [(0, True), (1, 2)]), False)
        self.assertIs(is_sharing(row(3), [(0, 1), (True, 2)]), False)

    def test_what_is_no_sharing_of_any_kind(self):
        for web in (row(2), full(3), KITE, full(7), ring(7)):
            for thing in no_sharings_with_ties():
                with self.subTest(web=web, thing=thing):
                    self.assertIs(is_sharing(web, thing), False)

    def test_things_that_do_not_compare(self):
        for thing in [[(0, 1), None], [None, (0, 1)], [(0, 1), 2], [(0, 1), "a"], [(0, 1), [0, 2]], [(0, 1), (0, None)],
                      [(0, 1), ("a", "b")], [{}, {}], [(0, {}), (0, {})], [(0, 1), nested(0, 11)]]:
            self.assertIs(is_sharing(full(3), thing), False, thing)

    def test_each_choice_of_crowds_of_few_places(self):
        for many in range(5):
            for web in webs_of(many):
                crowds = all_crowds(web)
                for size in range(min(len(crowds), 5) + 1):
                    for some in combinations(crowds, size):
                        self.assertIs(is_sharing(web, list(some)), shares(web, some), (web, some))

    def test_sharings_of_other_webs(self):
        sharings = [sharing for web in webs_of(4) for sharing in all_sharings(web)]
        for web in webs_of(4):
            own = all_sharings(web)
            for sharing in sharings:
                self.assertIs(is_sharing(web, sharing), sharing in own, (web, sharing))

    def test_too_great(self):
        for thing in ([], [(0, 1)], (), None, [(0, 1), (1, 2)], True):
            check_too_many_places(self, lambda web, thing=thing: is_sharing(web, thing), 7)

    def test_no_web_goes_ahead(self):
        for thing in ([], [(0, 1)], (), None):
            check_no_web(self, lambda web, thing=thing: is_sharing(web, thing))

    def test_nothing_handed_in_is_changed(self):
        for thing in odd_things() + [[(1, 2), (0, 1)], [(0, 1), (0, 2), (1, 2)], [[1, 0], [0, 1]], [(0, 1), [2, 1]],
                                     [(0, 1, 2)], ([(1, 2), (0, 1)],), {0: [(0, 1)]}]:
            before = deepcopy(thing)
            is_sharing(full(3), thing)
            self.assertEqual(thing, before)

    def test_what_is_done_later_counts_anew(self):
        handed = [(0, 1), (1, 2)]
        self.assertIs(is_sharing(row(3), handed), True)
        handed.pop()
        self.assertIs(is_sharing(row(3), handed), False)
        handed.append((1, 2))
        self.assertIs(is_sharing(row(3), handed), True)


class AllSharings(unittest.TestCase):
    def test_told_by_hand(self):
        self.assertEqual(all_sharings((2, ((0, 1),))), [[(0, 1)]])
        self.assertEqual(all_sharings(row(3)), [[(0, 1), (1, 2)]])
        self.assertEqual(all_sharings(full(3)), [[(0, 1), (0, 2), (1, 2)], [(0, 1, 2)]])
        self.assertEqual(all_sharings(KITE), [[(0, 1), (0, 2), (1, 2, 3)], [(0, 1, 2), (1, 3), (2, 3)]])
        self.assertEqual(all_sharings(BOW), [[(0, 1, 2), (2, 3, 4)]])
        self.assertEqual(all_sharings(NET), [[(0, 1, 2), (0, 3), (1, 4), (2, 5)]])
        self.assertEqual(all_sharings(EIGHT_SIDED), [[(0, 1, 2), (0, 3, 4), (1, 3, 5), (2, 4, 5)],
                                                     [(0, 1, 3), (0, 2, 4), (1, 2, 5), (3, 4, 5)]])
        self.assertEqual(all_sharings(WHEEL_OF_FOUR), [[(0, 1), (0, 3, 4), (1, 2, 4), (2, 3)],
                                                       [(0, 1, 4), (0, 3), (1, 2), (2, 3, 4)]])

    def test_several_of_two_pieces(self):
        self.assertEqual(all_sharings(THREES), [
            [(0, 1), (0, 2), (1, 2), (3, 4), (3, 5), (4, 5)],
            [(0, 1), (0, 2), (1, 2), (3, 4, 5)],
            [(0, 1, 2), (3, 4), (3, 5), (4, 5)],
            [(0, 1, 2), (3, 4, 5)],
        ])
        self.assertEqual(len(all_sharings(beside(full(3), KITE))), 4)
        turned = moved(THREES, (0, 2, 4, 1, 3, 5))
        self.assertEqual(all_sharings(turned), [
            [(0, 2), (0, 4), (1, 3), (1, 5), (2, 4), (3, 5)],
            [(0, 2), (0, 4), (1, 3, 5), (2, 4)],
            [(0, 2, 4), (1, 3), (1, 5), (3, 5)],
            [(0, 2, 4), (1, 3, 5)],
        ])

    def test_webs_without_ties(self):
        for many in range(8):
            self.assertEqual(all_sharings(bare(many)), [[]])

    def test_webs_without_a_sharing(self):
        for web in (star(4), star(7), WHEEL_OF_FIVE, without(full(5), (3, 4)), beside(star(4), full(3)),
                    beside(full(3), star(4)), (7, star(4)[1]), without(full(7), (0, 1))):
            self.assertEqual(all_sharings(web), [], web)

    def test_webs_with_one(self):
        for many in range(4, 8):
            self.assertEqual(all_sharings(full(many)), [[tuple(range(many))]])
            self.assertEqual(all_sharings(ring(many)), [list(ring(many)[1])])
        for many in range(2, 8):
            self.assertEqual(all_sharings(row(many)), [list(row(many)[1])])

    def test_webs_of_few_places_by_choosing_crowds(self):
        for many in range(5):
            for web in webs_of(many):
                self.assertEqual(all_sharings(web), sharings_by_choice(web), web)

    def test_webs_of_five_places_by_choosing_crowds(self):
        for web in webs_of(5)[::13] + [WHEEL_OF_FOUR, BOW]:
            self.assertEqual(all_sharings(web), sharings_by_choice(web), web)

    def test_webs_of_few_places_by_names_of_roots(self):
        for many in range(6):
            found = sharings_by_names(many)
            for web in webs_of(many):
                self.assertEqual(all_sharings(web), found.get(web, []), web)

    def test_webs_of_six_places_by_names_of_roots(self):
        found = sharings_by_names(6)
        for web, sharings in found.items():
            self.assertEqual(all_sharings(web), sharings, web)
        for web in webs_of(6)[::5]:
            self.assertEqual(all_sharings(web), found.get(web, []), web)

    def test_seven_places(self):
        for names in list(names_of(5))[::23]:
            web = web_named(names)
            for more in (bare(2), row(2)):
                both = beside(web, more)
                expected = sorted([sharing + [(5, 6)][:len(more[1])] for sharing in all_sharings(web)])
                self.assertEqual(all_sharings(both), expected, both)

    def test_each_is_a_sharing_and_all_rise(self):
        for web in webs_of(5) + [EIGHT_SIDED, NET, full(7), ring(7), beside(full(3), KITE)]:
            told = all_sharings(web)
            self.assertEqual(told, sorted(told))
            self.assertEqual(len({str(sharing) for sharing in told}), len(told))
            for sharing in told:
                self.assertIs(type(sharing), list)
                self.assertIs(is_sharing(web, sharing), True, (web, sharing))
                for crowd in sharing:
                    self.assertIs(type(crowd), tuple)

    def test_too_great(self):
        check_too_many_places(self, all_sharings, 7)

    def test_no_web(self):
        check_no_web(self, all_sharings)

    def test_the_lists_are_the_askers_own(self):
        for web in (full(3), THREES, KITE, EIGHT_SIDED, bare(0), bare(7), star(4)):
            told, before = all_sharings(web), all_sharings(web)
            self.assertIs(type(told), list)
            lists = [told, before] + told + before
            self.assertEqual(len({id(each) for each in lists}), len(lists))
            for sharing in told:
                sharing.append((0, 9))
                sharing[0] = None
            told.append(None)
            with self.assertRaises(TooGreat):
                all_sharings(bare(8))
            self.assertEqual(all_sharings(web), before)

    def test_the_web_is_left_as_it_was(self):
        web = beside(full(3), KITE)
        all_sharings(web)
        self.assertEqual(web, beside(full(3), KITE))


class RootBy(unittest.TestCase):
    def test_told_by_hand(self):
        self.assertEqual(root_by(row(2), [(0, 1)]), ((3, ((0, 1), (0, 2))), ((0, 1), (0, 2))))
        self.assertEqual(root_by(row(3), [(0, 1), (1, 2)]), ((4, ((0, 1), (0, 2), (1, 3))), ((0, 2), (0, 1), (1, 3))))
        self.assertEqual(root_by(full(3), [(0, 1, 2)]), ((4, ((0, 1), (0, 2), (0, 3))), ((0, 1), (0, 2), (0, 3))))
        self.assertEqual(root_by(full(3), [(0, 1), (0, 2), (1, 2)]), (full(3), ((0, 1), (0, 2), (1, 2))))
        self.assertEqual(root_by(BOW, [(0, 1, 2), (2, 3, 4)]),
                         ((6, ((0, 1), (0, 2), (0, 3), (1, 4), (1, 5))), ((0, 2), (0, 3), (0, 1), (1, 4), (1, 5))))
        self.assertEqual(root_by(KITE, [(0, 1), (0, 2), (1, 2, 3)]),
                         ((4, ((0, 1), (0, 2), (1, 2), (2, 3))), ((0, 1), (0, 2), (1, 2), (2, 3))))

    def test_places_in_none_stand_behind_those_in_one(self):
        # Places 0, 3 and 6 are in no crowd, 1, 2, 4 in one, 5 in two.
        web = (7, ((1, 5), (2, 4), (2, 5), (4, 5)))
        root, names = root_by(web, [(1, 5), (2, 4, 5)])
        self.assertEqual(root, (11, ((0, 1), (0, 2), (1, 3), (1, 4), (5, 6), (7, 8), (9, 10))))
        self.assertEqual(names, ((5, 6), (0, 2), (1, 3), (7, 8), (1, 4), (0, 1), (9, 10)))

    def test_the_crowds_stand_in_their_order(self):
        web = (4, ((0, 3), (1, 2), (1, 3)))
        self.assertEqual(root_by(web, [(0, 3), (1, 2), (1, 3)]),
                         ((5, ((0, 2), (0, 3), (1, 2), (1, 4))), ((0, 3), (1, 2), (1, 4), (0, 2))))

    def test_webs_without_ties(self):
        for many in range(8):
            ties = tuple([(2 * at, 2 * at + 1) for at in range(many)])
            self.assertEqual(root_by(bare(many), []), ((2 * many, ties), ties))

    def test_a_ring_and_a_crowd_of_seven(self):
        root, names = root_by(full(7), [tuple(range(7))])
        self.assertEqual((root, names), (star(8), star(8)[1]))
        root, names = root_by(ring(7), list(ring(7)[1]))
        self.assertEqual(names, ((0, 1), (0, 2), (2, 3), (3, 4), (4, 5), (5, 6), (1, 6)))
        self.assertEqual(root, (7, tuple(sorted(names))))

    def check(self, web, sharing):
        """The names are as point 33 tells, and the tie web of the root is the web."""
        told = root_by(web, sharing)
        self.assertIs(type(told), tuple)
        root, names = told
        self.assertIs(type(names), tuple)
        self.assertIs(is_web(root), True)
        crowds = {place: [at for at, crowd in enumerate(sharing) if place in crowd] for place in range(web[0])}
        following = len(sharing)
        expected = {}
        for place in range(web[0]):
            if len(crowds[place]) == 2:
                expected[place] = tuple(crowds[place])
            elif len(crowds[place]) == 1:
                expected[place] = (crowds[place][0], following)
                following += 1
        for place in range(web[0]):
            if not crowds[place]:
                expected[place] = (following, following + 1)
                following += 2
        self.assertEqual(names, tuple([expected[place] for place in range(web[0])]), (web, sharing))
        self.assertEqual(root, (following, tuple(sorted(names))))
        self.assertEqual(tie_web(root), moved(web, [root[1].index(name) for name in names]))

    def test_each_sharing_of_all_webs_of_few_places(self):
        for many in range(6):
            for web in webs_of(many):
                for sharing in all_sharings(web):
                    self.check(web, sharing)

    def test_each_sharing_of_webs_of_six_and_seven_places(self):
        for web in webs_of(6)[::17] + [EIGHT_SIDED, NET, THREES, full(7), ring(7), row(7), beside(full(3), KITE),
                                       beside(BOW, bare(2)), beside(bare(2), BOW), beside(KITE, full(3))]:
            for sharing in all_sharings(web):
                self.check(web, sharing)

    def test_what_is_no_sharing_is_refused(self):
        for web in (row(2), full(3), KITE, full(7), star(4)):
            for thing in no_sharings_with_ties() + [list(web[1])[1:], tuple(web[1]), list(web[1])[::-1] * 2,
                                                    list(map(list, web[1]))]:
                with self.subTest(web=web, thing=thing), self.assertRaises(NoSharing):
                    root_by(web, thing)

    def test_what_is_no_sharing_of_a_web_without_ties_is_refused(self):
        for many in range(8):
            for thing in [(), {}, "", None, 0, False, [()], [[]], [(0,)], [(0, 1)], ((),), set()]:
                with self.subTest(many=many, thing=thing), self.assertRaises(NoSharing):
                    root_by(bare(many), thing)

    def test_faults_of_sharings_are_refused(self):
        for thing in [[(0, 1), (0, 2)], [(1, 2, 3)], [(0, 2), (0, 1), (1, 2, 3)], [(0, 1), (0, 2), (1, 2), (1, 2, 3)],
                      [(0, 1), (0, 2), (1, 2), (1, 3), (2, 3)], [(0, 1), (0, 1), (0, 2), (1, 2, 3)],
                      ((0, 1), (0, 2), (1, 2, 3)), [[0, 1], [0, 2], [1, 2, 3]], [(0, 1), (0, 2), (True, 2, 3)]]:
            with self.subTest(thing=thing), self.assertRaises(NoSharing):
                root_by(KITE, thing)

    def test_too_great_goes_ahead(self):
        for thing in ([], [(0, 1)], (), None, "a"):
            check_too_many_places(self, lambda web, thing=thing: root_by(web, thing), 7)

    def test_no_web_goes_ahead(self):
        for thing in ([], [(0, 1)], (), None):
            check_no_web(self, lambda web, thing=thing: root_by(web, thing))

    def test_the_list_handed_in_is_left_as_it_was(self):
        web = beside(BOW, bare(2))
        handed = [(0, 1, 2), (2, 3, 4)]
        told = root_by(web, handed)
        self.assertEqual(handed, [(0, 1, 2), (2, 3, 4)])
        names = ((0, 2), (0, 3), (0, 1), (1, 4), (1, 5), (6, 7), (8, 9))
        self.assertEqual(told, ((10, tuple(sorted(names))), names))
        handed.clear()
        self.assertEqual(told, ((10, tuple(sorted(names))), names))
        with self.assertRaises(NoSharing):
            root_by(web, handed)
        self.assertEqual(handed, [])
        handed.extend([(0, 1, 2), (2, 3, 4)])
        self.assertEqual(root_by(web, handed), told)


if __name__ == "__main__":
    unittest.main()
