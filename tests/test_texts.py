import unittest
from copy import deepcopy

from helper import (BOW, EIGHT_SIDED, KITE, NET, THIRTY, WHEEL_OF_FIVE, bare, beside, check_no_web, foreign_things,
                    full, nested, odd_things, ring, row, scattered, star, webs_of)
from tiewebs.errors import NoText
from tiewebs.texts import read_web, web_text
from tiewebs.webs import is_web

TEXT = "4: 0-1 2-3"
# Figures that are none from 0 to 9, though Python reads numbers of them, and blanks of other sorts.
FOREIGN_FIGURES = ("\u0663", "\uff13", "\u00b3", "\u2462", "\u09e9")
FOREIGN_BLANKS = ("\t", "\n", "\r", "\x0b", "\x0c", "\x00", "\u00a0", "\u2003", "\u3000", "\u2028", "_", ",")


def some_webs():
    found = [web for many in range(5) for web in webs_of(many)] + webs_of(5)[::31] + webs_of(6)[::997]
    for many in range(15):
        found.extend([bare(many), full(many), row(many), *scattered(many, 3, 2), *scattered(many, 2, 6)])
        if many > 2:
            found.extend([ring(many), star(many)])
    return found + [KITE, BOW, NET, EIGHT_SIDED, WHEEL_OF_FIVE, beside(full(7), full(7)), (14, ((0, 13), (9, 10)))]


class WebText(unittest.TestCase):
    def test_told_by_hand(self):
        self.assertEqual(web_text((4, ((0, 1), (2, 3)))), "4: 0-1 2-3")
        self.assertEqual(web_text((0, ())), "0:")
        self.assertEqual(web_text((14, ())), "14:")
        self.assertEqual(web_text((2, ((0, 1),))), "2: 0-1")
        self.assertEqual(web_text((14, ((0, 13), (9, 10), (10, 13)))), "14: 0-13 9-10 10-13")
        self.assertEqual(web_text(full(4)), "4: 0-1 0-2 0-3 1-2 1-3 2-3")

    def test_webs_without_ties(self):
        for many in range(15):
            self.assertEqual(web_text(bare(many)), str(many) + ":")

    def test_webs_of_many_sorts(self):
        for web in some_webs():
            told = web_text(web)
            self.assertIs(type(told), str)
            words = [str(web[0]) + ":"] + [str(a) + "-" + str(b) for a, b in web[1]]
            self.assertEqual(told, " ".join(words))

    def test_no_web(self):
        check_no_web(self, web_text)

    def test_the_same_again(self):
        web = (5, KITE[1])
        self.assertEqual(web_text(web), web_text(web))
        self.assertEqual(web, (5, KITE[1]))


class ReadWeb(unittest.TestCase):
    def refused(self, things):
        for thing in things:
            with self.subTest(thing=thing), self.assertRaises(NoText):
                read_web(thing)

    def test_told_by_hand(self):
        self.assertEqual(read_web("4: 0-1 2-3"), (4, ((0, 1), (2, 3))))
        self.assertEqual(read_web("0:"), (0, ()))
        self.assertEqual(read_web("10:"), (10, ()))
        self.assertEqual(read_web("14:"), (14, ()))
        self.assertEqual(read_web("14: 0-13 9-10 10-13"), (14, ((0, 13), (9, 10), (10, 13))))

    def test_what_is_written_is_read_again(self):
        for web in some_webs():
            told = read_web(web_text(web))
            self.assertEqual(told, web)
            self.assertIs(is_web(told), True)

    def test_a_nought_ahead(self):
        self.refused(["00:", "04:", "04: 0-1", "4: 00-1", "4: 0-01", "4: 0-1 02-3", "4: 0-1 2-03", "014:", "000:",
                      "14: 0-013", "14: 01-13", "4: 0-001"])

    def test_a_blank_more_out_ahead_or_behind(self):
        for at in range(len(TEXT) + 1):
            self.refused([TEXT[:at] + " " + TEXT[at:]])
        self.refused(["4:0-1 2-3", "4: 0-12-3", "4:0-12-3", "4: ", "4:  ", " 4:", "4 :", " ", "0: ", " 0:", "0 :",
                      "14: ", "4:  0-1", "4: 0-1  2-3", "4: 0-1 2-3  "])

    def test_each_sign_out(self):
        for at in range(len(TEXT)):
            # Without a figure of a number, or what is between them, it is no web that is written.
            self.refused([TEXT[:at] + TEXT[at + 1:]])
        self.refused(["4", "4 0-1", "4: 01", "4: 0-", "4: -1", "4: -", ":", ": 0-1", "-", "4: 0 1", "4: 0-1 2", "14"])

    def test_each_sign_another_one(self):
        for at in range(len(TEXT)):
            for sign in ":;,.-_+ ~x/*" + "\t\n":
                if sign != TEXT[at]:
                    self.refused([TEXT[:at] + sign + TEXT[at + 1:]])

    def test_a_sign_in(self):
        for at in range(len(TEXT) + 1):
            for sign in "+-_:;,.x(0'" + "\t\n\r\x00\u00a0\u200b":
                self.refused([TEXT[:at] + sign + TEXT[at:]])

    def test_figures_in(self):
        # With a one more some are webs again, and read as what they write; all others are refused.
        for at in range(len(TEXT) + 1):
            text = TEXT[:at] + "1" + TEXT[at:]
            if text == "14: 0-1 2-3":
                self.assertEqual(read_web(text), (14, ((0, 1), (2, 3))))
            else:
                self.refused([text])
        self.assertEqual(read_web("14: 0-1 2-13"), (14, ((0, 1), (2, 13))))

    def test_signs_of_numbers(self):
        self.refused(["+4:", "-4:", "4: +0-1", "4: 0-+1", "4: 0--1", "4: -0-1", "4: 0-1 2--3", "+0:", "-0:", "-1:",
                      "1_4:", "1_0:", "14: 0-1_3", "4_: 0-1", "_4:", "4.0:", "4: 0-1.0", "0x4:", "4e0:", "1e1:",
                      "four:"])

    def test_other_blanks_and_line_ends(self):
        for sign in FOREIGN_BLANKS:
            self.refused(["4:" + sign + "0-1", "4: 0-1" + sign + "2-3", "4: 0-1" + sign, "4:" + sign, sign + "4:",
                          "4" + sign + ":", sign, "4: 0" + sign + "-1", "4: 0-" + sign + "1", "4: 0-1 2-3" + sign])
        self.refused(["4: 0-1\r\n", "4: 0-1\n2-3", "4:\n"])

    def test_other_figures(self):
        for figure in FOREIGN_FIGURES:
            self.refused([figure + ":", "4: 0-" + figure, "4: " + figure + "-3", "1" + figure + ":"])

    def test_ties_that_do_not_rise_or_stand_twice(self):
        self.refused(["4: 2-3 0-1", "4: 0-1 0-1", "4: 0-2 0-1", "4: 1-2 0-3", "4: 1-0", "4: 3-2", "4: 0-1 3-2",
                      "4: 0-0", "4: 3-3", "4: 0-1 1-1", "14: 0-10 0-9", "14: 10-11 9-11", "4: 0-1 0-1 2-3",
                      "4: 0-1 2-3 2-3", "14: 0-13 0-2"])

    def test_places_that_are_none(self):
        self.refused(["0: 0-1", "1: 0-1", "2: 0-2", "2: 1-2", "4: 0-4", "4: 4-5", "4: 0-1 2-4", "14: 0-14", "14: 13-14",
                      "3: 0-99", "4: 0-100", "4: 0-" + str(THIRTY), "1: 0-0"])

    def test_more_than_fourteen_places(self):
        self.refused(["15:", "16:", "15: 0-1", "20:", "99:", "100:", "140:", "1000:", str(THIRTY) + ":",
                      "9" * 5000 + ":"])

    def test_very_long_texts(self):
        # Python itself reads no numbers of so many figures.
        self.refused(["1" * 10000 + ":", "4: 0-" + "1" * 10000, "4: " + "0" * 10000 + "-1", "4:" + " 0-1" * 10000,
                      "4:" * 10000, " " * 10000, "-" * 10000, "4:" + " " * 10000])

    def test_no_webs_in_texts(self):
        self.refused(["", "a", "web", "(4, ())", "(0, ())", "4: 0-1,2-3", "4:0-1:2-3", "4: 0-1-2", "4:: 0-1", "4: :0-1",
                      "4: 0:1", "4- 0-1", "4; 0-1", "4: a-b", "4: 0-b", "None", "True", "4: 0-1 x", "x 4: 0-1",
                      "4: (0,1)", "4: 0-1 2-3:", "4: 0-1: 2-3", "4:4: 0-1", "4: 4: 0-1", "4: 0-1 2-3\n4: 0-1 2-3",
                      "\ud800", "4: \ud800"])

    def test_other_things_than_texts(self):
        things = [thing for thing in odd_things() if thing != "2: 0-1"]
        self.assertEqual(len(things), len(odd_things()) - 1)
        self.refused(things + foreign_things())
        self.refused([0, 4, (4, ()), (4, ((0, 1),)), ["4:"], ("4:",), {"4:": "4:"}, b"4:", b"4: 0-1", [4, ":"],
                      list("4:"), tuple("4:"), nested("4:", 12), bytearray(b"4:")])

    def test_nothing_handed_in_is_changed(self):
        for thing in odd_things() + [["4:"], {"4:": []}]:
            before = deepcopy(thing)
            try:
                read_web(thing)
            except NoText:
                pass
            self.assertEqual(thing, before)

    def test_the_same_again(self):
        told = read_web(TEXT)
        self.refused(["4: 1-0"])
        self.assertEqual(read_web(TEXT), told)


if __name__ == "__main__":
    unittest.main()
