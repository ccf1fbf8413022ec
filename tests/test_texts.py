"""Point 15.1: webs, deals and slips as texts."""

import random
import unittest
from fractions import Fraction

from rootstalls.errors import BadSlip, BadStall, BadText, BadWares
from rootstalls.texts import deal_text, read_deal, read_slips, read_web, slips_text, web_text
from rootstalls.webs import Web
from rootstalls.wishes import deal_for
from tests.samples import (
    BARE, EVEN, FULL, LONE, ODD, ONE, SPLIT, Case, cases, odd_things, pair, some_number, webs,
    wrong_strings,
)
from tests.test_orders import RIGHT_AMOUNTS, WRONG_AMOUNTS
from tests.test_slips import random_slips, wrong_slips

ODD_TEXT = "wares 3\n0 1 1 1\n1 2 1 1\n0 2 2 1/2"
SLIPS = [(0, ONE, 1, (2, 3)), (2, (7, 2), 0, (12, 1))]
SLIPS_TEXT = "0 1 1 2/3\n2 7/2 0 12"
DEAL = [(0, 0, ONE), (12, 7, (3, 4)), (999999999, 999999999, (999999999999, 2))]
DEAL_TEXT = "0 0 1\n12 7 3/4\n999999999 999999999 999999999999/2"
# What stands in the place of a number of a ware or a stall and is none.
WRONG_NUMBERS = ("", "00", "01", "-1", "+1", "1/1", "1.0", "x", "1_0", "1000000000", "0x1", " ", "1\t")
# What stands in the place of an amount and is none; 0 is one there.
WRONG_FORMS = tuple(word for word in WRONG_AMOUNTS if word != "0")


def by_words(lines):
    """Lines of the texts of numbers, with Python's own fractions."""
    return [[Fraction(word) for word in line.split(" ")] for line in lines]


class Webs(Case):
    def test_by_hand(self):
        self.told(ODD_TEXT, web_text, ODD)
        self.told("wares 1", web_text, LONE)
        self.told("wares 4", web_text, BARE)
        self.told(
            "wares 6\n4 1 1/2 8\n4 1 1/2 8\n5 0 3 3\n0 2 1/3 1/12", web_text, SPLIT,
        )
        self.told(ODD, read_web, ODD_TEXT)
        self.told(LONE, read_web, "wares 1")
        self.told(Web(2, [(1, 0, (2, 1), (8, 1), (4, 1))]), read_web, "wares 2\n1 0 2 8")
        self.told(Web(2, [(0, 1, (2, 9), (1, 8), (1, 6))]), read_web, "wares 2\n0 1 2/9 1/8")

    def test_webs_are_read_back(self):
        for web in list(webs(260, 80, 8)) + [EVEN, ODD, LONE, BARE, SPLIT, FULL]:
            text = web_text(web)
            self.told(web, read_web, text)
            self.assertEqual(text, web_text(read_web(text)))
            lines = text.split("\n")
            self.assertEqual(1 + len(web.stalls), len(lines))
            for stall, words in zip(web.stalls, by_words(lines[1:])):
                self.assertEqual([stall[0], stall[1], Fraction(*stall[2]), Fraction(*stall[3])], words)

    def test_amounts_of_any_size_are_written(self):
        for number in (10 ** 299 + 1, 10 ** 64, 10 ** 64 - 1, 10 ** 128 + 7, 7 * 10 ** 63):
            root = (number, 1)
            web = Web(2, [(0, 1, (number * number, 1), ONE, root)])
            self.told(f"wares 2\n0 1 {number * number} 1", web_text, web)
            web = Web(2, [(0, 1, (number, 1), (number, 1), root), (1, 0, (1, number), (1, number), (1, number))])
            self.told(f"wares 2\n0 1 {number} {number}\n1 0 1/{number} 1/{number}", web_text, web)
        # More digits than Python itself writes at once.
        long = Web(2, [(0, 1, (10 ** 6000, 1), ONE, (10 ** 3000, 1))])
        self.told("wares 2\n0 1 1" + "0" * 6000 + " 1", web_text, long)

    def test_wrong_first_lines(self):
        lines = [
            "", " ", "wares", "wares ", " wares 3", "wares 3 ", "wares  3", "Wares 3", "ware 3", "wares 3 3",
            "3", "0 1 1 1", "wares\t3",
        ] + [f"wares {word}" for word in WRONG_NUMBERS]
        for line in lines:
            self.refused(BadText, {"index": 0}, read_web, line)
            self.refused(BadText, {"index": 0}, read_web, line + "\n0 1 1 1")
            self.refused(BadText, {"index": 0}, read_web, line + "\nwrong\n")

    def test_wrong_lines_of_stalls(self):
        lines = [
            "", " ", "0", "0 1", "0 1 1", "0 1 1 1 1", " 0 1 1 1", "0 1 1 1 ", "0  1 1 1", "0 1  1 1",
            "0 1\t1 1", "wares 3", "0,1,1,1", "0 1 1 2", "0 1 2 3/2", "0 1 1/2 1/3", "0 1 999999999999 1",
            "0 1 0 1", "0 1 1 0", "0 1 0 0",
        ]
        lines += [f"{word} 1 1 1" for word in WRONG_NUMBERS] + [f"0 {word} 1 1" for word in WRONG_NUMBERS]
        lines += [f"0 1 {word} 1" for word in WRONG_AMOUNTS] + [f"0 1 1 {word}" for word in WRONG_AMOUNTS]
        for line in lines:
            self.refused(BadText, {"index": 1}, read_web, "wares 3\n" + line)
            self.refused(BadText, {"index": 4}, read_web, ODD_TEXT + "\n" + line)
            # The first wrong line is told, and lines are read ahead of what Web raises.
            self.refused(BadText, {"index": 2}, read_web, f"wares 0\n0 0 1 1\n{line}\n{line}")

    def test_a_line_feed_behind_the_last_line(self):
        self.refused(BadText, {"index": 4}, read_web, ODD_TEXT + "\n")
        self.refused(BadText, {"index": 1}, read_web, "wares 1\n")
        self.refused(BadText, {"index": 0}, read_web, "\n" + ODD_TEXT)
        self.refused(BadText, {"index": 0}, read_web, "")

    def test_right_amounts(self):
        for word, amount in RIGHT_AMOUNTS.items():
            web = Web(2, [(0, 1, amount, amount, amount)])
            self.told(web, read_web, f"wares 2\n0 1 {word} {word}")

    def test_what_webs_raise(self):
        for number in (0, 9, 10, 123456789, 999999999):
            self.refused(BadWares, {}, read_web, f"wares {number}")
            self.refused(BadWares, {}, read_web, f"wares {number}\n5 5 1 1")
        self.refused(BadStall, {"index": 0}, read_web, "wares 3\n0 0 1 1\n0 3 1 1")
        self.refused(BadStall, {"index": 1}, read_web, "wares 3\n0 1 1 1\n0 3 1 1")
        self.refused(BadStall, {"index": 0}, read_web, "wares 3\n999999999 1 1 1")
        self.refused(BadStall, {"index": 0}, read_web, "wares 1\n0 1 1 1")
        self.assertEqual(16, len(read_web("wares 2" + "\n0 1 1 1" * 16).stalls))
        self.refused(BadStall, {"index": -1}, read_web, "wares 2" + "\n0 1 1 1" * 17)
        self.refused(BadStall, {"index": -1}, read_web, "wares 2" + "\n7 7 1 1" * 17)
        self.refused(BadWares, {}, read_web, "wares 9" + "\n0 1 1 1" * 17)

    def test_strings_are_asked(self):
        for wrong in wrong_strings():
            self.refused(BadText, {"index": -1}, read_web, wrong)
            self.refused(BadText, {"index": -1}, read_deal, wrong)
            self.refused(BadText, {"index": -1}, read_slips, EVEN, wrong)


class Deals(Case):
    def test_by_hand(self):
        self.told(DEAL_TEXT, deal_text, DEAL)
        self.told("", deal_text, [])
        self.told("5 6 7/8", deal_text, [(5, 6, (7, 8))])
        self.told(DEAL, read_deal, DEAL_TEXT)
        self.told([], read_deal, "")

    def test_deals_are_read_back(self):
        many = 0
        for web, purse, wish in cases(261, 80, 5):
            deal = deal_for(web, purse, wish)
            if deal is not None:
                deal = [move for move in deal if max(move[2]) < 10 ** 12]
                many += len(deal)
                text = deal_text(deal)
                self.told(deal, read_deal, text)
                self.assertEqual(text, deal_text(read_deal(text)))
                lines = by_words(text.split("\n")) if text else []
                self.assertEqual([[move[0], move[1], Fraction(*move[2])] for move in deal], lines)
        self.assertTrue(many > 40)

    def test_numbers_of_any_size_are_written(self):
        deal = [(999999999999, 100000000000, (10 ** 299, 10 ** 298 + 1))] * 2
        line = f"999999999999 100000000000 {10 ** 299}/{10 ** 298 + 1}"
        self.told(f"{line}\n{line}", deal_text, deal)
        long = "1" + "0" * 6000
        self.told(f"0 0 {long}\n0 1 1/{long}", deal_text, [(0, 0, (10 ** 6000, 1)), (0, 1, (1, 10 ** 6000))])

    def test_many_moves(self):
        self.told([(0, 0, ONE)] * 200, read_deal, "\n".join(["0 0 1"] * 200))
        self.assertEqual(200, len(deal_text([(0, 0, ONE)] * 200).split("\n")))

    def test_wrong_lines(self):
        lines = [
            "", " ", "0", "0 0", "0 0 1 1", " 0 0 1", "0 0 1 ", "0  0 1", "0 0  1", "0\t0 1", "put 1 0 0", "0,0,1",
        ]
        lines += [f"{word} 0 1" for word in WRONG_NUMBERS] + [f"0 {word} 1" for word in WRONG_NUMBERS]
        lines += [f"0 0 {word}" for word in WRONG_AMOUNTS]
        for line in lines:
            if line:
                self.refused(BadText, {"index": 0}, read_deal, line)
            self.refused(BadText, {"index": 3}, read_deal, DEAL_TEXT + "\n" + line)
            self.refused(BadText, {"index": 1}, read_deal, f"0 0 1\n{line}\n{line}\nwrong")

    def test_a_line_feed_behind_the_last_line(self):
        self.refused(BadText, {"index": 3}, read_deal, DEAL_TEXT + "\n")
        self.refused(BadText, {"index": 0}, read_deal, "\n")
        self.refused(BadText, {"index": 1}, read_deal, "0 0 1\n\n0 0 1")


class Slips(Case):
    def test_by_hand(self):
        self.told(SLIPS_TEXT, slips_text, EVEN, SLIPS)
        self.told(SLIPS_TEXT, slips_text, EVEN, tuple(SLIPS))
        self.told("", slips_text, EVEN, [])
        self.told("", slips_text, LONE, ())
        self.told(SLIPS, read_slips, EVEN, SLIPS_TEXT)
        self.told([], read_slips, EVEN, "")

    def test_slips_are_read_back(self):
        chance = random.Random(262)
        many = 0
        for web in webs(262, 60, 6, 8):
            if web.wares == 1:
                continue
            slips = random_slips(chance, web, chance.randint(0, 10))
            slips = [slip for slip in slips if max(slip[1] + slip[3]) < 10 ** 12]
            many += len(slips)
            text = slips_text(web, slips)
            self.told(slips, read_slips, web, text)
            self.assertEqual(text, slips_text(web, read_slips(web, text)))
            wanted = [[one, Fraction(*much), other, Fraction(*least)] for one, much, other, least in slips]
            self.assertEqual(wanted, by_words(text.split("\n")) if text else [])
        self.assertTrue(many > 60)

    def test_slips_to_be_written_are_asked(self):
        for wrong in wrong_slips():
            self.refused(BadSlip, {"index": 1}, slips_text, EVEN, [SLIPS[0], wrong, None])
        for wrong in odd_things() + [0, None, SLIPS * 6]:
            if not isinstance(wrong, (list, tuple)) or len(wrong) > 10:
                self.refused(BadSlip, {"index": -1}, slips_text, EVEN, wrong)
        self.refused(BadSlip, {"index": 0}, slips_text, LONE, SLIPS)

    def test_wrong_lines(self):
        lines = [
            "", " ", "0", "0 1", "0 1 1", "0 1 1 1 1", " 0 1 1 1", "0 1 1 1 ", "0  1 1 1", "0 1 1  1", "0 1\t1 1",
        ]
        lines += [f"{word} 1 1 1" for word in WRONG_NUMBERS] + [f"0 1 {word} 1" for word in WRONG_NUMBERS]
        lines += [f"0 {word} 1 1" for word in WRONG_FORMS] + [f"0 1 1 {word}" for word in WRONG_FORMS]
        for line in lines:
            if line:
                self.refused(BadText, {"index": 0}, read_slips, EVEN, line)
            self.refused(BadText, {"index": 2}, read_slips, EVEN, SLIPS_TEXT + "\n" + line)
            # Lines are read ahead of what slips are asked.
            self.refused(BadText, {"index": 1}, read_slips, EVEN, f"0 1 0 1\n{line}\n{line}\n0 0 0 0")

    def test_slips_that_are_read_are_asked(self):
        for line in ("0 0 1 1", "0 1 1 0", "0 0 1 0", "0 1 0 1", "0 1 3 1", "3 1 0 1", "0 1 999999999 1"):
            self.refused(BadSlip, {"index": 0}, read_slips, EVEN, line)
            self.refused(BadSlip, {"index": 2}, read_slips, EVEN, f"{SLIPS_TEXT}\n{line}\n{line}")
        self.assertEqual(10, len(read_slips(EVEN, "\n".join(["0 1 1 1"] * 10))))
        self.refused(BadSlip, {"index": -1}, read_slips, EVEN, "\n".join(["0 1 1 1"] * 11))
        self.refused(BadSlip, {"index": -1}, read_slips, EVEN, "\n".join(["0 0 0 0"] * 11))
        self.refused(BadText, {"index": 11}, read_slips, EVEN, "0 1 1 1\n" * 11)
        self.refused(BadSlip, {"index": 0}, read_slips, LONE, "0 1 1 1")

    def test_large_numbers(self):
        chance = random.Random(263)
        for _ in range(20):
            much = some_number(chance) * 10 ** 11
            slips = [(0, pair(much), 1, pair(1 / much))]
            self.told(slips, read_slips, EVEN, slips_text(EVEN, slips))
        self.refused(BadText, {"index": 0}, read_slips, EVEN, f"0 {10 ** 12} 1 1")
        self.told(f"0 {10 ** 12} 1 1", slips_text, EVEN, [(0, (10 ** 12, 1), 1, ONE)])


if __name__ == "__main__":
    unittest.main()
