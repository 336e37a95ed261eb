"""What several tests use: odd things to hand in, webs to hand in, and what must be refused of each question."""

from itertools import combinations, permutations

from tiewebs.errors import NoNumber, NoWeb, TooGreat

THIRTY = 10 ** 30 - 1


def nested(core, deep):
    """core within so many lists, tuples and dicts, by turns."""
    for turn in range(deep):
        core = ([core], (core,), {"in": core})[turn % 3]
    return core


def odd_things():
    """Things of many kinds, none of them a web, a place, a tuple of places or a map.

    They are made anew at each call, so that no test hangs on what another one did to them."""
    return [
        None, True, False, "", "0", "01", "ab", "(0, ())", "2: 0-1",
        -1, -2, 99, THIRTY, -THIRTY,
        [], [0], [0, 1], [0, []], [0, ()], [2, [[0, 1]]], [None], [[]],
        {}, {0: 1}, {0: 0, 1: ()}, {"many": 0, "ties": ()}, {1: {}},
        (None,), ("",), ("0",), (True,), (False,), (False, True), (True, False), (0, True),
        ([],), ([0],), ({},), ((),), ((0,),), ((0, 1),), (0, None), (None, 0), (0, "1"), ("0", 1),
        (0, [1]), ([0], 1), (0, {}), ({}, 0), ([], []), ({}, {}), ((), ()),
        (THIRTY,), (-THIRTY,), (-1,), (0, THIRTY), (-THIRTY, 0),
        nested(0, 12), nested(None, 12), nested("", 11), nested((), 11), nested([], 11), nested({}, 11),
        (0, nested(0, 11)), (nested(0, 11), 0), (nested(0, 11),), [nested(0, 11)],
    ]


def foreign_things():
    """Things of kinds that the document does not speak of."""
    return [0.0, 1.0, 0.5, float("nan"), b"", b"\x00", b"\x00\x01", set(), {0}, {0, 1}, frozenset({0}),
            (0.0,), (0.0, 1.0), ({0},), (b"",), object(), (object(),), len, int, range(2), iter((0, 1))]


def no_webs():
    """Things of which none is a web.

    None says that it has very many places: a broken program that counted them would not fail but go on and on."""
    return odd_things() + foreign_things() + [
        0, 1, 14, (), (0,), (2,), (0, (), ()), (2, ((0, 1),), 0), (2, ((0, 1),), None),
        (15, ()), (16, ((0, 1),)), (100, ()), (-1, ()), (-14, ()), (-THIRTY, ()),
        (True, ()), (False, ()), (None, ()), ("2", ()), ("", ()), ([2], ()), ((2,), ()), ({}, ()), (2.0, ()),
        ((), 0), (((0, 1),), 2),
        (0, []), (0, {}), (0, ""), (0, None), (0, 0), (0, False), (0, set()),
        (2, []), (2, [(0, 1)]), (2, {(0, 1): True}), (2, {0: 1}), (2, "01"), (2, None), (2, 1), (2, {(0, 1)}),
        (2, (0, 1)), (2, ([0, 1],)), (2, ("01",)), (2, (None,)), (2, ({0: 0, 1: 1},)), (2, (0,)), (2, (True,)),
        (2, ((),)), (2, ((0,),)), (3, ((0, 1, 2),)), (2, (((0, 1),),)), (2, (((0, 1),), ())),
        (3, ((0, 1), ())), (3, ((0, 1), (2,))), (3, ((0, 1), (0, 2, 2))), (3, ((0, 1), None)), (3, ((0, 1), [0, 2])),
        (3, ([0, 1], (0, 2))), (3, (None, (0, 1))), (3, ((0, 1), "12")), (3, ((0, 1), 2)),
        (2, ((1, 0),)), (2, ((0, 0),)), (2, ((1, 1),)), (3, ((0, 1), (2, 0))), (3, ((0, 1), (2, 1))),
        (3, ((0, 1), (1, 1))), (3, ((0, 1), (1, 0))), (3, ((0, 0), (0, 1))), (3, ((0, 1), (2, 2))),
        (0, ((0, 1),)), (1, ((0, 1),)), (1, ((0, 0),)), (2, ((0, 2),)), (2, ((1, 2),)), (2, ((2, 3),)), (3, ((0, 3),)),
        (2, ((-1, 0),)), (2, ((-1, 1),)), (2, ((-2, -1),)), (3, ((0, 1), (1, 3))), (3, ((-1, 1), (0, 1))),
        (14, ((0, 14),)), (14, ((13, 14),)), (14, ((0, 1), (12, 14))), (14, ((0, THIRTY),)), (14, ((-THIRTY, 0),)),
        (2, ((0, 1), (0, 1))), (3, ((0, 1), (0, 2), (0, 2))), (3, ((0, 1), (0, 1), (0, 2))),
        (3, ((0, 2), (0, 1))), (3, ((1, 2), (0, 1))), (3, ((1, 2), (0, 2))), (4, ((0, 1), (2, 3), (1, 2))),
        (4, ((0, 1), (1, 3), (1, 2))), (4, ((0, 2), (0, 1), (2, 3))), (4, ((0, 3), (1, 2), (0, 1))),
        (2, ((False, True),)), (2, ((0, True),)), (2, ((False, 1),)), (3, ((True, 2),)), (3, ((0, 1), (True, 2))),
        (2, ((0, None),)), (2, ((None, 1),)), (2, (("0", "1"),)), (2, ((0, "1"),)), (2, (([0], 1),)), (2, (({}, 1),)),
        (2, ((0, (1,)),)), (2, ((0, 1.0),)), (2, ((0.0, 1),)),
        (2, nested((0, 1), 11)), (2, (nested(0, 10),)), (2, ((0, nested(1, 9)),)), (nested(2, 11), ((0, 1),)),
    ]


def no_numbers(most):
    """Things of which none is a whole number from 0 to most."""
    return odd_things() + foreign_things() + [
        -3, -most, most + 1, most + 2, most + 10, 2 ** 64, -2 ** 64, THIRTY - 1, str(most), f"{most} ", (most,), [most],
        {most: most}, {most}, float(most), complex(most), bytes([most]), (), ((most,),), nested(most, 12), range(most),
    ]


def no_maps_of(many):
    """Things of which none is a tuple with each of so many places once, many from 2 on."""
    plain = tuple(range(many))
    return odd_things() + foreign_things() + [
        0, 1, list(plain), dict(enumerate(plain)), "".join(map(str, plain)), plain[:-1], plain[1:], plain + (many,),
        plain[:-1] + (many,), plain + (0,), plain + plain, (0,) * many, (many - 1,) * many, plain[:-1] + (0,),
        (1,) + plain[1:], (-1,) + plain[1:], tuple(range(-many, 0)), tuple(range(1, many + 1)),
        plain[:-1] + (-1,), plain[:-1] + (None,), plain[:-1] + (str(many - 1),), plain[:-1] + ([many - 1],),
        plain[:-1] + ({},), plain[:-1] + ((many - 1,),), plain[:-1] + (float(many - 1),), (False,) + plain[1:],
        (0, True) + plain[2:], plain[:-1] + (THIRTY,), (-THIRTY,) + plain[1:], (plain,), tuple(map(str, plain)),
        (nested(0, 11),) + plain[1:],
    ]


def pairs_of(many):
    return list(combinations(range(many), 2))


def webs_of(many):
    """All webs of so many places."""
    pairs = pairs_of(many)
    return [(many, ties) for size in range(len(pairs) + 1) for ties in combinations(pairs, size)]


def full(many):
    return (many, tuple(pairs_of(many)))


def bare(many):
    return (many, ())


def row(many):
    return (many, tuple([(at, at + 1) for at in range(many - 1)]))


def ring(many):
    return (many, tuple(sorted([(at, at + 1) for at in range(many - 1)] + [(0, many - 1)])))


def star(many):
    return (many, tuple([(0, at) for at in range(1, many)]))


def moved(web, places):
    """The web that has place places[k] where the one handed in has place k."""
    return (web[0], tuple(sorted([tuple(sorted((places[a], places[b]))) for a, b in web[1]])))


def without(web, *ties):
    """The web without some of its ties."""
    return (web[0], tuple([tie for tie in web[1] if tie not in ties]))


def beside(one, other):
    """The two webs as one, the places of the other behind those of the one."""
    return (one[0] + other[0], one[1] + tuple([(a + one[0], b + one[0]) for a, b in other[1]]))


# Four places with all ties but one, and six with all but three that do not meet: of each two sharings.
KITE = without(full(4), (0, 3))
EIGHT_SIDED = without(full(6), (0, 5), (1, 4), (2, 3))
# Two threes that meet at a place.
BOW = (5, ((0, 1), (0, 2), (1, 2), (2, 3), (2, 4), (3, 4)))
# A three with one more place at each of its places.
NET = (6, ((0, 1), (0, 2), (0, 3), (1, 2), (1, 4), (2, 5)))
# A ring of four or five places, and one place tied to them all.
WHEEL_OF_FOUR = (5, ((0, 1), (0, 3), (0, 4), (1, 2), (1, 4), (2, 3), (2, 4), (3, 4)))
WHEEL_OF_FIVE = (6, ((0, 1), (0, 4), (0, 5), (1, 2), (1, 5), (2, 3), (2, 5), (3, 4), (3, 5), (4, 5)))


# Of each kind of webs that are no tie webs, but are where any one place is left out, one: these are all.
BARRED = (
    (4, ((0, 1), (0, 2), (0, 3))),
    (5, ((0, 1), (0, 2), (0, 3), (1, 2), (1, 3), (2, 4), (3, 4))),
    (5, ((0, 1), (0, 2), (0, 3), (0, 4), (1, 2), (1, 3), (1, 4), (2, 3), (2, 4))),
    (6, ((0, 1), (0, 2), (0, 3), (1, 2), (1, 3), (2, 4), (3, 5))),
    (6, ((0, 1), (0, 2), (0, 3), (1, 2), (1, 3), (2, 4), (3, 5), (4, 5))),
    (6, ((0, 1), (0, 2), (0, 3), (0, 4), (1, 2), (1, 3), (1, 4), (2, 3), (4, 5))),
    (6, ((0, 1), (0, 2), (0, 3), (0, 4), (1, 2), (1, 3), (1, 5), (2, 4), (3, 5))),
    (6, ((0, 1), (0, 2), (0, 3), (0, 4), (0, 5), (1, 2), (1, 3), (2, 4), (3, 5), (4, 5))),
    (6, ((0, 1), (0, 2), (0, 3), (0, 4), (0, 5), (1, 2), (1, 3), (1, 4), (1, 5), (2, 3), (4, 5))),
)


def part_of(web, some):
    """The web within some places, in the order in which they stand."""
    at = {place: number for number, place in enumerate(some)}
    return moved((len(some), tuple([tie for tie in web[1] if tie[0] in at and tie[1] in at])), at)


def one_of_each_kind(many):
    """All webs of so many places, but one alone of those that are the same under other numbers."""
    seen, found = set(), []
    for web in webs_of(many):
        if web not in seen:
            found.append(web)
            seen.update([moved(web, places) for places in permutations(range(many))])
    return found


def scattered(many, how_many, eighths):
    """Webs of so many places, the same at each call, that have about so many eighths of all ties, here and there."""
    found, state = [], 7 * many + eighths
    for turn in range(how_many):
        ties = []
        for pair in pairs_of(many):
            state = (state * 1103515245 + 12345) % 2 ** 31
            if (state >> 16) % 8 < eighths:
                ties.append(pair)
        found.append((many, tuple(ties)))
    return found


def names_of(many):
    """Tuples of so many ties of a root, no two the same: all that there are, but for how the root is numbered.

    The root's places are numbered as the names need them, one by one."""
    if many == 0:
        yield ()
        return
    for ahead in names_of(many - 1):
        used = max([high + 1 for low, high in ahead], default=0)
        for name in pairs_of(used) + [(low, used) for low in range(used)] + [(used, used + 1)]:
            if name not in ahead:
                yield ahead + (name,)


def web_named(names):
    """The web with a place for each name, tied where the names have a place in common."""
    pairs = pairs_of(len(names))
    return (len(names), tuple([(a, b) for a, b in pairs if set(names[a]) & set(names[b])]))


def named_webs(many):
    """All tie webs of so many places, by going through the names of all roots."""
    return {web_named(names) for names in names_of(many)}


def root_named(names, many=None):
    """The root with these names for its ties, of as few places as they need or of so many."""
    fewest = max([high + 1 for low, high in names], default=0)
    return (fewest if many is None else many, tuple(sorted(names)))


def check_no_web(case, ask):
    """ask(web) refuses with NoWeb whatever is none."""
    for thing in no_webs():
        with case.subTest(thing=thing), case.assertRaises(NoWeb):
            ask(thing)


def check_no_number(case, ask, most):
    """ask(number) refuses with NoNumber whatever is no whole number from 0 to most."""
    for thing in no_numbers(most):
        with case.subTest(thing=thing), case.assertRaises(NoNumber):
            ask(thing)


def check_too_many_places(case, ask, most):
    """ask(web) refuses all webs of more places than most, with both numbers."""
    for many in range(most + 1, 15):
        for web in (bare(many), row(many), ring(many), full(many), star(many), (many, ((0, 1),))):
            with case.subTest(web=web):
                with case.assertRaises(TooGreat) as caught:
                    ask(web)
                case.assertEqual((caught.exception.many, caught.exception.most), (many, most))
