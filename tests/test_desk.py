import unittest
from copy import deepcopy

from helper import (BOW, EIGHT_SIDED, KITE, NET, WHEEL_OF_FIVE, WHEEL_OF_FOUR, bare, beside, foreign_things, full,
                    nested, odd_things, pairs_of, ring, row, scattered, star, webs_of, without)
from tiewebs.again import fate, sizes_ahead
from tiewebs.desk import Desk
from tiewebs.errors import NoDeed, NoLine, NoPlace, NotJoined, NoTie, TooGreat
from tiewebs.sharings import all_sharings
from tiewebs.texts import web_text
from tiewebs.ties import tie_web

QUESTIONS = ("web", "root", "shared", "ahead", "fate")


def lines_to(web):
    """Lines that make a web on any desk."""
    return [f"places {web[0]}"] + [f"tie {a} {b}" for a, b in web[1]]


def desk_with(web):
    desk = Desk()
    for line in lines_to(web):
        desk.say(line)
    return desk


def answers(desk):
    """What a desk answers to all questions, refusals too."""
    found = []
    for line in QUESTIONS:
        try:
            found.append(desk.say(line))
        except (TooGreat, NotJoined) as refusal:
            found.append((type(refusal), vars(refusal)))
    return found


class DeskCase(unittest.TestCase):
    def say(self, desk, *talk):
        """Each line is answered with ok."""
        for line in talk:
            self.assertEqual(desk.say(line), "ok", line)

    def refuse(self, desk, line, kind):
        """The line is refused, and changes nothing, neither now nor for what is undone later."""
        before = answers(desk)
        with self.subTest(line=line), self.assertRaises(kind) as caught:
            desk.say(line)
        self.assertEqual(answers(desk), before, line)
        return caught.exception

    def too_great(self, desk, line, many):
        refusal = self.refuse(desk, line, TooGreat)
        self.assertEqual((refusal.many, refusal.most), (many, 7))


class Deeds(DeskCase):
    def test_a_new_desk(self):
        desk = Desk()
        self.assertEqual(answers(desk), ["0:", "yes", "none", "0 0 0 0", "gone 0"])

    def test_the_answer_is_a_text(self):
        desk = desk_with(KITE)
        for line in (*QUESTIONS, "tie 0 3", "make", "back", "places 4"):
            self.assertIs(type(desk.say(line)), str)

    def test_places(self):
        for many in range(15):
            desk = Desk()
            self.say(desk, f"places {many}")
            self.assertEqual(desk.say("web"), f"{many}:")
        desk = desk_with(full(5))
        self.say(desk, "places 5")
        self.assertEqual(desk.say("web"), "5:")
        self.say(desk, "places 0")
        self.assertEqual(desk.say("web"), "0:")

    def test_more_places_than_fourteen_make_no_line(self):
        desk = desk_with(row(3))
        for many in (15, 16, 20, 99, 100, 140):
            self.refuse(desk, f"places {many}", NoLine)

    def test_a_tie_put_in_and_out(self):
        desk = Desk()
        self.say(desk, "places 4", "tie 2 3")
        self.assertEqual(desk.say("web"), "4: 2-3")
        self.say(desk, "tie 0 1")
        self.assertEqual(desk.say("web"), "4: 0-1 2-3")
        self.say(desk, "tie 3 2")
        self.assertEqual(desk.say("web"), "4: 0-1")
        self.say(desk, "tie 1 0")
        self.assertEqual(desk.say("web"), "4:")
        self.say(desk, "tie 1 0")
        self.assertEqual(desk.say("web"), "4: 0-1")

    def test_ties_of_places_of_two_figures(self):
        desk = Desk()
        self.say(desk, "places 14", "tie 13 10", "tie 9 13", "tie 0 13")
        self.assertEqual(desk.say("web"), "14: 0-13 9-13 10-13")

    def test_ties_in_any_order(self):
        for web in [full(5), KITE, NET, WHEEL_OF_FIVE, full(14), ring(14)]:
            desk = Desk()
            self.say(desk, f"places {web[0]}")
            for at, (a, b) in enumerate(web[1][::-1]):
                self.say(desk, f"tie {a} {b}" if at % 2 else f"tie {b} {a}")
            self.assertEqual(desk.say("web"), web_text(web))

    def test_ties_of_places_that_are_none(self):
        for many in range(15):
            desk = desk_with(bare(many))
            for line in (f"tie {many} 0", f"tie 0 {many}", f"tie {many} {many + 1}", "tie 99 0", "tie 0 99",
                         "tie 14 13", "tie 99 98", f"tie {max(many - 1, 0)} {many}"):
                self.refuse(desk, line, NoPlace)

    def test_a_place_is_not_tied_to_itself(self):
        for many in range(1, 15):
            desk = desk_with(row(many))
            for place in (0, many - 1):
                self.refuse(desk, f"tie {place} {place}", NoTie)

    def test_no_place_goes_ahead_of_no_tie(self):
        for many in range(15):
            desk = desk_with(bare(many))
            for place in (many, many + 1, 99):
                self.refuse(desk, f"tie {place} {place}", NoPlace)

    def test_make(self):
        for web in (bare(0), bare(14), row(8), ring(7), star(8), KITE, NET, full(4), BOW, (14, ((0, 1), (1, 13)))):
            desk = desk_with(web)
            self.say(desk, "make")
            self.assertEqual(desk.say("web"), web_text(tie_web(web)))

    def test_make_again(self):
        desk = desk_with(row(5))
        for text in ("4: 0-1 1-2 2-3", "3: 0-1 1-2", "2: 0-1", "1:", "0:", "0:"):
            self.say(desk, "make")
            self.assertEqual(desk.say("web"), text)

    def test_make_of_eight_ties_and_more(self):
        for web in (row(9), ring(8), full(5), full(14), star(9), WHEEL_OF_FOUR, (14, full(14)[1][:8])):
            self.too_great(desk_with(web), "make", len(web[1]))

    def test_make_of_a_tie_web_that_has_too_many(self):
        desk = desk_with(star(8))
        self.say(desk, "make")
        self.too_great(desk, "make", 21)
        self.assertEqual(desk.say("web"), web_text(full(7)))


class Back(DeskCase):
    def test_back_of_places(self):
        desk = desk_with(KITE)
        self.say(desk, "places 9")
        self.assertEqual(desk.say("web"), "9:")
        self.say(desk, "back")
        self.assertEqual(desk.say("web"), web_text(KITE))

    def test_back_of_a_tie_put_in(self):
        desk = desk_with(KITE)
        self.say(desk, "tie 0 3", "back")
        self.assertEqual(desk.say("web"), web_text(KITE))

    def test_back_of_a_tie_put_out(self):
        desk = desk_with(KITE)
        self.say(desk, "tie 1 2", "back")
        self.assertEqual(desk.say("web"), web_text(KITE))

    def test_back_of_make(self):
        desk = desk_with(KITE)
        self.say(desk, "make", "back")
        self.assertEqual(desk.say("web"), web_text(KITE))

    def test_back_of_deeds_that_left_the_web_as_it_was(self):
        desk = Desk()
        self.say(desk, "places 0", "make", "places 0")
        for turn in range(3):
            self.say(desk, "back")
        self.refuse(desk, "back", NoDeed)
        self.say(desk, "places 3", "places 3", "back")
        self.assertEqual(desk.say("web"), "3:")
        self.say(desk, "back")
        self.assertEqual(desk.say("web"), "0:")

    def test_several_in_a_row(self):
        desk = Desk()
        talk = ["places 4", "tie 0 1", "tie 1 2", "tie 2 3", "make", "tie 0 2", "tie 0 1", "make", "places 14"]
        texts = [desk.say("web")]
        for line in talk:
            self.say(desk, line)
            texts.append(desk.say("web"))
        for text in texts[-2::-1]:
            self.say(desk, "back")
            self.assertEqual(desk.say("web"), text)
        self.refuse(desk, "back", NoDeed)

    def test_a_deed_behind_back(self):
        desk = Desk()
        self.say(desk, "places 4", "tie 0 1", "back", "tie 2 3")
        self.assertEqual(desk.say("web"), "4: 2-3")
        self.say(desk, "back")
        self.assertEqual(desk.say("web"), "4:")
        self.say(desk, "back")
        self.assertEqual(desk.say("web"), "0:")
        self.refuse(desk, "back", NoDeed)

    def test_back_itself_is_not_undone(self):
        desk = Desk()
        self.say(desk, "places 4", "tie 0 1", "back", "back")
        self.assertEqual(desk.say("web"), "0:")
        self.refuse(desk, "back", NoDeed)

    def test_where_no_deed_stands(self):
        desk = Desk()
        self.refuse(desk, "back", NoDeed)
        for line in QUESTIONS:
            desk.say(line)
        self.refuse(desk, "back", NoDeed)
        self.say(desk, "places 2", "back")
        self.refuse(desk, "back", NoDeed)
        self.refuse(desk, "back", NoDeed)
        self.say(desk, "places 2")
        self.assertEqual(desk.say("web"), "2:")

    def test_behind_what_was_refused(self):
        desk = desk_with((9, full(9)[1][:8]))
        refused = [("tie 9 0", NoPlace), ("tie 3 3", NoTie), ("make", TooGreat), ("places 15", NoLine),
                   ("root", TooGreat), ("shared", TooGreat), ("", NoLine), (None, NoLine), ("Back", NoLine),
                   ("tie 0", NoLine)]
        for line, kind in refused:
            self.refuse(desk, line, kind)
        self.say(desk, "back")
        self.assertEqual(desk.say("web"), web_text((9, full(9)[1][:7])))
        for line, kind in refused:
            if line != "make":
                self.refuse(desk, line, kind)
        self.say(desk, "back")
        self.assertEqual(desk.say("web"), web_text((9, full(9)[1][:6])))

    def test_behind_questions(self):
        desk = desk_with(KITE)
        for line in QUESTIONS:
            desk.say(line)
        self.say(desk, "back")
        self.assertEqual(desk.say("web"), web_text((4, KITE[1][:-1])))


class Questions(DeskCase):
    def test_root(self):
        for web in webs_of(4) + webs_of(5)[::41] + [full(7), ring(7), star(7), NET, EIGHT_SIDED, WHEEL_OF_FIVE, BOW,
                                                    bare(7)]:
            self.assertEqual(desk_with(web).say("root"), "yes" if all_sharings(web) else "no", web)
        self.assertEqual(desk_with(star(4)).say("root"), "no")
        self.assertEqual(desk_with(row(4)).say("root"), "yes")

    def test_shared_by_hand(self):
        for web, text in [(bare(0), "none"), (bare(1), "none"), (bare(7), "none"), (row(2), "0 1"),
                          (row(3), "0 1 + 1 2"), (full(3), "0 1 + 0 2 + 1 2"), (full(4), "0 1 2 3"),
                          (full(7), "0 1 2 3 4 5 6"), (KITE, "0 1 + 0 2 + 1 2 3"), (BOW, "0 1 2 + 2 3 4"),
                          (star(4), "no"), (WHEEL_OF_FIVE, "no"), (star(7), "no"), (without(full(7), (0, 1)), "no")]:
            self.assertEqual(desk_with(web).say("shared"), text)

    def test_shared(self):
        for web in webs_of(4) + webs_of(5)[::41] + [EIGHT_SIDED, NET, ring(7), row(7), beside(full(3), KITE)]:
            sharings = all_sharings(web)
            if not sharings:
                text = "no"
            elif not sharings[0]:
                text = "none"
            else:
                text = " + ".join([" ".join(map(str, crowd)) for crowd in sharings[0]])
            self.assertEqual(desk_with(web).say("shared"), text, web)

    def test_root_and_shared_of_eight_places_and_more(self):
        for many in range(8, 15):
            for web in (bare(many), row(many), full(many), star(many)):
                desk = desk_with(web)
                self.too_great(desk, "root", many)
                self.too_great(desk, "shared", many)

    def test_ahead(self):
        self.assertEqual(desk_with(star(4)).say("ahead"), "4 3 3 3")
        self.assertEqual(desk_with(full(14)).say("ahead"), "14 91 1092 25116")
        for web in webs_of(4) + scattered(14, 3, 3) + [bare(0), bare(14), row(14), ring(14), star(14)]:
            self.assertEqual(desk_with(web).say("ahead"), " ".join(map(str, sizes_ahead(web))), web)

    def test_fate(self):
        for web, text in [(bare(0), "gone 0"), (bare(1), "gone 1"), (row(2), "gone 2"), (row(14), "gone 14"),
                          (ring(3), "stays 3"), (ring(14), "stays 14"), (star(4), "stays 3"), (star(5), "grows"),
                          (KITE, "grows"), (full(14), "grows")]:
            self.assertEqual(desk_with(web).say("fate"), text)
            self.assertEqual(text, " ".join(map(str, fate(web))))

    def test_fate_of_more_pieces(self):
        for web in (bare(2), bare(14), beside(row(2), row(2)), beside(full(7), full(7)), beside(star(4), bare(1))):
            self.refuse(desk_with(web), "fate", NotJoined)

    def test_the_same_question_has_the_same_answer(self):
        for web in (KITE, star(4), full(9), bare(2), bare(0)):
            desk = desk_with(web)
            before = answers(desk)
            for turn in range(3):
                self.assertEqual(answers(desk), before)
            self.assertEqual(answers(desk_with(web)), before)


def no_lines():
    """Texts of which none is a line."""
    found = ["", " ", "  ", "a", "ok", "none", "no", "yes", "Web", "WEB", "web:", "webs", "we", "help", "quit",
             "4: 0-1", "0:", "place 4", "Places 4", "PLACES 4", "places", "places ", "places  4", "places 4 ",
             " places 4", "places 4 5", "places 4 4", "places four", "places -1", "places +4", "places 04",
             "places 00", "places 4.0", "places 4_", "places 1_0", "places _4", "places 1 4", "places 004",
             "places 014", "places 100", "places 999", "places 15", "places 99", "places 0x4", "places 4\n",
             "places 4\t", "places\t4", "places\n4", "places 4\r\n", "places:4", "places4", "places 4,", "places (4)",
             "places None", "places True", "4 places", "places \u0664", "places \uff14", "places \u00b2",
             "places\u00a04", "places 4\u00a0", "places \x00", "places 4\x00", "tie", "tie ", "tie 0", "tie 0 ",
             "tie  0 1", "tie 0  1", "tie 0 1 ", " tie 0 1", "tie 0 1 2", "tie 0 1 0 1", "tie 0-1", "tie 0,1",
             "tie 0, 1", "tie 0 -1", "tie -1 0", "tie +0 1", "tie 0 +1", "tie 00 1", "tie 0 01", "tie 0 1\n",
             "tie 0\t1", "tie\t0 1", "\ttie 0 1", "\ntie 0 1", "tie 0\n1", "tie 0 100", "tie 100 0", "tie 000 1",
             "tie 0 1.0", "tie a b", "tie 0 b", "tie a 1", "ties 0 1", "Tie 0 1", "TIE 0 1", "tie 0 1_",
             "tie 0 \u0661", "tie \uff10 1", "tie 0 " + "1" * 10000, "tie 0 1 +", "untie 0 1", "tie 0 1 tie 0 1",
             "tie 0 1\ntie 0 1"]
    for word in ("make", "back", *QUESTIONS):
        found.extend([word.upper(), word.title(), word + " ", " " + word, word + "\n", word + "\t", "\t" + word,
                      "\n" + word, word + " 0", word + " 1", word + " 1 2", word + " " + word, word + "  ", word[:-1],
                      word + "s", word + ".", word + "\r", word + "\x00", word + "\u00a0", word + word, word + " 4:",
                      "say " + word])
    return found + ["make make make", "back 1", "make 2", "web web", "root?", "make\nmake", "web\nroot", "web;root",
                    "places 4 tie 0 1", " " * 10000, "web" * 10000, "web " * 10000, "tie " * 3, "tie  ", "tie   ",
                    "\ud800", "places \ud800"]


class Lines(DeskCase):
    def test_texts_that_are_no_lines(self):
        for desk in (Desk(), desk_with(KITE), desk_with(full(9))):
            for line in no_lines():
                self.refuse(desk, line, NoLine)

    def test_other_things_than_texts(self):
        desk = desk_with(KITE)
        for thing in odd_things() + foreign_things() + [
                0, 4, (), ["web"], ("web",), {"web": "web"}, {"web"}, b"web", b"make", ["places", 4], ("tie", 0, 1),
                ["tie", "0", "1"], nested("web", 12), list("web"), bytearray(b"web"), KITE]:
            self.refuse(desk, thing, NoLine)

    def test_things_handed_in_are_left_as_they_were(self):
        desk = desk_with(KITE)
        for thing in [["web"], ["tie", [0, 1]], {"web": []}] + odd_things():
            before = deepcopy(thing)
            with self.assertRaises(NoLine):
                desk.say(thing)
            self.assertEqual(thing, before)

    def test_none_of_them_stands_as_a_deed(self):
        desk = Desk()
        for line in no_lines() + odd_things():
            with self.assertRaises(NoLine):
                desk.say(line)
        self.refuse(desk, "back", NoDeed)

    def test_no_line_is_refused_ahead_of_all_else(self):
        desk = desk_with(bare(2))
        self.refuse(desk, "tie 5 100", NoLine)
        self.refuse(desk, "tie 0 0 0", NoLine)
        self.refuse(desk, "tie 5 05", NoLine)
        self.refuse(desk_with(full(14)), "make 1", NoLine)
        self.refuse(Desk(), "back 1", NoLine)


class Desks(DeskCase):
    def test_two_desks_beside_one_another(self):
        one, other = Desk(), Desk()
        self.say(one, "places 4", "tie 0 1")
        self.assertEqual(other.say("web"), "0:")
        self.refuse(other, "back", NoDeed)
        self.say(other, "places 3", "tie 1 2", "make")
        self.assertEqual((one.say("web"), other.say("web")), ("4: 0-1", "1:"))
        self.say(one, "back")
        self.assertEqual((one.say("web"), other.say("web")), ("4:", "1:"))
        self.say(other, "back", "back")
        self.assertEqual((one.say("web"), other.say("web")), ("4:", "3:"))
        self.say(one, "back")
        self.refuse(one, "back", NoDeed)
        self.say(other, "back")
        self.refuse(other, "back", NoDeed)

    def test_a_desk_hangs_on_the_deeds_that_stand_alone(self):
        for seed in range(12):
            desk, stand = Desk(), []
            for line in babble(seed, 120):
                try:
                    told = desk.say(line)
                except (NoPlace, NoTie, NoDeed, NoLine, NotJoined, TooGreat):
                    continue
                if line == "back":
                    self.assertEqual(told, "ok")
                    stand.pop()
                elif line not in QUESTIONS:
                    self.assertEqual(told, "ok")
                    stand.append(line)
                anew = Desk()
                self.say(anew, *stand)
                self.assertEqual(answers(desk), answers(anew))
            while stand:
                self.say(desk, "back")
                stand.pop()
            self.refuse(desk, "back", NoDeed)
            self.assertEqual(answers(desk), answers(Desk()))

    def test_against_a_desk_that_keeps_all_webs(self):
        for seed in range(12, 20):
            desk, webs = Desk(), [(0, ())]
            for line in babble(seed, 200):
                expected, refusal = following(webs, line)
                if refusal is None:
                    self.assertEqual(desk.say(line), expected, (webs[-1], line))
                else:
                    self.refuse(desk, line, refusal)
                self.assertEqual(desk.say("web"), web_text(webs[-1]))


def babble(seed, many):
    """So many lines, the same at each call: deeds and questions, some that are refused."""
    state = seed + 1
    for turn in range(many):
        state = (state * 1103515245 + 12345) % 2 ** 31
        kind, a, b = (state >> 16) % 20, (state >> 8) % 7, (state >> 12) % 9
        if kind < 9:
            yield f"tie {a} {b}"
        elif kind < 13:
            yield "back"
        elif kind < 15:
            yield "make"
        elif kind < 17:
            yield f"places {a + b}"
        else:
            yield (*QUESTIONS, "tie 1", "places 15", "")[b % 8]


def following(webs, line):
    """What a line must be answered with, or how it must be refused; its deed is done on webs, all webs that stand."""
    many, ties = webs[-1]
    words = line.split()
    if line in ("tie 1", "places 15", ""):
        return None, NoLine
    if words[0] == "tie":
        pair = tuple(sorted(map(int, words[1:])))
        if pair[1] >= many:
            return None, NoPlace
        if pair not in pairs_of(many):
            return None, NoTie
        webs.append((many, tuple(sorted(set(ties) ^ {pair}))))
    elif words[0] == "places":
        webs.append((int(words[1]), ()))
    elif line == "make":
        if len(ties) > 7:
            return None, TooGreat
        webs.append(tie_web(webs[-1]))
    elif line == "back":
        if len(webs) == 1:
            return None, NoDeed
        webs.pop()
    else:
        told = answers(desk_with(webs[-1]))[QUESTIONS.index(line)]
        return (told, None) if isinstance(told, str) else (None, told[0])
    return "ok", None


if __name__ == "__main__":
    unittest.main()
