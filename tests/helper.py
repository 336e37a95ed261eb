"""What several tests use: odd things to hand in, and webs to hand in."""

from itertools import combinations

THIRTY = 10 ** 30 - 1


def nested(core, deep):
    """core within so many lists, tuples and dicts, by turns."""
    for turn in range(deep):
        core = ([core], (core,), {"in": core})[turn % 3]
    return core


def odd_things():
    """Things of many kinds, none of them a web, a place, a tuple of places or a map.

    They are made anew at each call, so that no test hangs on what another one did to them."""
    return [
        None, True, False, "", "0", "01", "ab", "(0, ())", "2: 0-1",
        -1, -2, 99, THIRTY, -THIRTY,
        [], [0], [0, 1], [0, []], [0, ()], [2, [[0, 1]]], [None], [[]],
        {}, {0: 1}, {0: 0, 1: ()}, {"many": 0, "ties": ()}, {1: {}},
        (None,), ("",), ("0",), (True,), (False,), (False, True), (True, False), (0, True),
        ([],), ([0],), ({},), ((),), ((0,),), ((0, 1),), (0, None), (None, 0), (0, "1"), ("0", 1),
        (0, [1]), ([0], 1), (0, {}), ({}, 0), ([], []), ({}, {}), ((), ()),
        (THIRTY,), (-THIRTY,), (-1,), (0, THIRTY), (-THIRTY, 0),
        nested(0, 12), nested(None, 12), nested("", 11), nested((), 11), nested([], 11), nested({}, 11),
        (0, nested(0, 11)), (nested(0, 11), 0), (nested(0, 11),), [nested(0, 11)],
    ]


def foreign_things():
    """Things of kinds that the document does not speak of."""
    return [0.0, 1.0, 0.5, float("nan"), b"", b"\x00", b"\x00\x01", set(), {0}, {0, 1}, frozenset({0}),
            (0.0,), (0.0, 1.0), ({0},), (b"",), object(), (object(),), len, int, range(2), iter((0, 1))]


def no_webs():
    """Things of which none is a web.

    None says that it has very many places: a broken program that counted them would not fail but go on and on."""
    return odd_things() + foreign_things() + [
        0, 1, 14, (), (0,), (2,), (0, (), ()), (2, ((0, 1),), 0), (2, ((0, 1),), None),
        (15, ()), (16, ((0, 1),)), (100, ()), (-1, ()), (-14, ()), (-THIRTY, ()),
        (True, ()), (False, ()), (None, ()), ("2", ()), ("", ()), ([2], ()), ((2,), ()), ({}, ()), (2.0, ()),
        ((), 0), (((0, 1),), 2),
        (0, []), (0, {}), (0, ""), (0, None), (0, 0), (0, False), (0, set()),
        (2, []), (2, [(0, 1)]), (2, {(0, 1): True}), (2, {0: 1}), (2, "01"), (2, None), (2, 1), (2, {(0, 1)}),
        (2, (0, 1)), (2, ([0, 1],)), (2, ("01",)), (2, (None,)), (2, ({0: 0, 1: 1},)), (2, (0,)), (2, (True,)),
        (2, ((),)), (2, ((0,),)), (3, ((0, 1, 2),)), (2, (((0, 1),),)), (2, (((0, 1),), ())),
        (3, ((0, 1), ())), (3, ((0, 1), (2,))), (3, ((0, 1), (0, 2, 2))), (3, ((0, 1), None)), (3, ((0, 1), [0, 2])),
        (3, ([0, 1], (0, 2))), (3, (None, (0, 1))), (3, ((0, 1), "12")), (3, ((0, 1), 2)),
        (2, ((1, 0),)), (2, ((0, 0),)), (2, ((1, 1),)), (3, ((0, 1), (2, 0))), (3, ((0, 1), (2, 1))),
        (3, ((0, 1), (1, 1))), (3, ((0, 1), (1, 0))), (3, ((0, 0), (0, 1))), (3, ((0, 1), (2, 2))),
        (0, ((0, 1),)), (1, ((0, 1),)), (1, ((0, 0),)), (2, ((0, 2),)), (2, ((1, 2),)), (2, ((2, 3),)), (3, ((0, 3),)),
        (2, ((-1, 0),)), (2, ((-1, 1),)), (2, ((-2, -1),)), (3, ((0, 1), (1, 3))), (3, ((-1, 1), (0, 1))),
        (14, ((0, 14),)), (14, ((13, 14),)), (14, ((0, 1), (12, 14))), (14, ((0, THIRTY),)), (14, ((-THIRTY, 0),)),
        (2, ((0, 1), (0, 1))), (3, ((0, 1), (0, 2), (0, 2))), (3, ((0, 1), (0, 1), (0, 2))),
        (3, ((0, 2), (0, 1))), (3, ((1, 2), (0, 1))), (3, ((1, 2), (0, 2))), (4, ((0, 1), (2, 3), (1, 2))),
        (4, ((0, 1), (1, 3), (1, 2))), (4, ((0, 2), (0, 1), (2, 3))), (4, ((0, 3), (1, 2), (0, 1))),
        (2, ((False, True),)), (2, ((0, True),)), (2, ((False, 1),)), (3, ((True, 2),)), (3, ((0, 1), (True, 2))),
        (2, ((0, None),)), (2, ((None, 1),)), (2, (("0", "1"),)), (2, ((0, "1"),)), (2, (([0], 1),)), (2, (({}, 1),)),
        (2, ((0, (1,)),)), (2, ((0, 1.0),)), (2, ((0.0, 1),)),
        (2, nested((0, 1), 11)), (2, (nested(0, 10),)), (2, ((0, nested(1, 9)),)), (nested(2, 11), ((0, 1),)),
    ]


def pairs_of(many):
    return list(combinations(range(many), 2))


def webs_of(many):
    """All webs of so many places."""
    pairs = pairs_of(many)
    return [(many, ties) for size in range(len(pairs) + 1) for ties in combinations(pairs, size)]


def full(many):
    return (many, tuple(pairs_of(many)))


def bare(many):
    return (many, ())


def row(many):
    return (many, tuple([(at, at + 1) for at in range(many - 1)]))


def ring(many):
    return (many, tuple(sorted([(at, at + 1) for at in range(many - 1)] + [(0, many - 1)])))


def star(many):
    return (many, tuple([(0, at) for at in range(1, many)]))


def moved(web, places):
    """The web that has place places[k] where the one handed in has place k."""
    return (web[0], tuple(sorted([tuple(sorted((places[a], places[b]))) for a, b in web[1]])))
