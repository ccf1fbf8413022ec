"""Points 13.1 and 13.2: judging brokers."""

import random
import unittest

from rootstalls.brims import brim, brim_deal
from rootstalls.brokers import short_by, tried
from rootstalls.deals import is_deal, played
from rootstalls.errors import BadBroker, BadPurse, BadWare, BadWish
from rootstalls.wishes import deal_for, is_bar
from tests.samples import (
    BARE, EVEN, LONE, NONE, ODD, ONE, ZERO, Case, cases, odd_things, pair, webs, worth, wrong_rows,
    wrong_wares,
)

PURSE = (ONE, ZERO, ZERO)
MET = (ZERO, (1, 2), ZERO)
MISSED = (ZERO, ONE, ZERO)
LARGE_BOTTOM = 10 ** 20


class Oops(Exception):
    pass


def saying(answer):
    """A broker that always returns this."""
    return lambda web, purse, wish: answer


def never(web, purse, wish):
    raise AssertionError("called")


def failing(web, purse, wish):
    raise Oops("mine")


class Tried(Case):
    def judged(self, word, web, purse, wish, broker):
        """The word is told, with what belongs to it."""
        told, shown = tried(web, purse, wish, broker)
        self.assertEqual(word, told)
        self.assertIs(tuple, tried(web, purse, wish, broker).__class__)
        if word == "missed":
            self.assertIs(True, is_deal(web, purse, wish, shown))
        if word == "wrong":
            self.assertIs(True, is_bar(web, purse, wish, shown))

    def test_the_right_deal(self):
        deal = [(0, 0, ONE)]
        self.told(("right", deal), tried, EVEN, PURSE, MET, saying(deal))
        self.told(("right", []), tried, EVEN, PURSE, PURSE, saying([]))
        self.told(("right", []), tried, LONE, [ONE], [ONE], saying([]))
        answer = tried(EVEN, PURSE, MET, saying(deal))[1]
        self.assertIsNot(deal, answer)
        # What is owed meanwhile does not count.
        there = [(1, 2, ONE), (1, 1, (1, 2))]
        self.told(("right", there), tried, EVEN, NONE, NONE, saying(there))

    def test_none_for_what_none_meets(self):
        self.told(("right", None), tried, EVEN, PURSE, MISSED, saying(None))
        self.told(("right", None), tried, BARE, [ZERO] * 4, [ONE] * 4, saying(None))

    def test_a_deal_is_missed(self):
        for answer in ([], [(0, 0, (1, 2))], [(0, 0, (2, 1))], ((0, 0, ONE),), [(0, 0, ZERO)], [None]):
            self.judged("missed", EVEN, PURSE, MET, saying(answer))
        self.judged("missed", EVEN, PURSE, MET, saying(None))
        self.judged("missed", EVEN, PURSE, MET, saying([(0, 0, ONE)] + [(1, 1, (1, LARGE_BOTTOM))] * 200))
        for thing in odd_things():
            self.judged("missed", EVEN, PURSE, MET, saying(thing))

    def test_a_broker_is_wrong(self):
        for answer in ([], [(0, 0, ONE)], ((0, 0, ONE),), [None], 0, False):
            self.judged("wrong", EVEN, PURSE, MISSED, saying(answer))
        for thing in odd_things():
            if thing is not None:
                self.judged("wrong", EVEN, PURSE, MISSED, saying(thing))

    def test_brokers_are_called_once_with_what_was_passed(self):
        for purse, wish in ((PURSE, MET), (list(PURSE), list(MISSED)), (list(PURSE), MET)):
            calls = []
            tried(EVEN, purse, wish, lambda *told: calls.append(told))
            self.assertEqual(1, len(calls))
            for passed, told in zip((EVEN, purse, wish), calls[0]):
                self.assertIs(passed, told)

    def test_lists_that_brokers_change(self):
        def richer(web, purse, wish):
            purse[1] = (9, 1)
            wish[1] = ZERO
            return []

        self.assertEqual("missed", tried(EVEN, list(PURSE), list(MET), richer)[0])
        self.assertEqual("wrong", tried(EVEN, list(PURSE), list(MISSED), richer)[0])
        bar = tried(EVEN, list(PURSE), list(MISSED), richer)[1]
        self.assertIs(True, is_bar(EVEN, PURSE, MISSED, bar))

        def emptier(web, purse, wish):
            del purse[:]
            wish.append("more")
            return [(0, 0, ONE)]

        self.assertEqual(("right", [(0, 0, ONE)]), tried(EVEN, list(PURSE), list(MET), emptier))

        def returns_the_wish(web, purse, wish):
            wish[:] = [(0, 0, ONE)]
            return wish

        wish = list(MET)
        answer = tried(EVEN, PURSE, wish, returns_the_wish)
        self.assertEqual(("right", [(0, 0, ONE)]), answer)
        self.assertIsNot(wish, answer[1])

        def gives_up(web, purse, wish):
            wish[1] = (9, 1)

        self.assertEqual("missed", tried(EVEN, PURSE, list(MET), gives_up)[0])

    def test_own_errors_go_on(self):
        for wish in (MET, MISSED):
            with self.assertRaises(Oops) as caught:
                tried(EVEN, PURSE, wish, failing)
            self.assertEqual(("mine",), caught.exception.args)
            with self.assertRaises(BadWish):
                tried(EVEN, PURSE, wish, lambda web, purse, wish: deal_for(web, purse, None))

    def test_purses_and_wishes_are_asked_first(self):
        for wrong in wrong_rows(3):
            self.refused(BadPurse, {}, tried, EVEN, wrong, None, never)
            self.refused(BadWish, {}, tried, EVEN, PURSE, wrong, never)

    def test_deal_for_is_right(self):
        words = []
        for web, purse, wish in cases(230, 150, 5):
            told, shown = tried(web, purse, wish, deal_for)
            self.assertEqual(("right", deal_for(web, purse, wish)), (told, shown))
            # The same answers to the wrong side: nothing at all, and a deal of no moves.
            words.append(tried(web, purse, wish, saying(None))[0])
            self.judged("right" if shown is None else "missed", web, purse, wish, saying(None))
            if not is_deal(web, purse, wish, []):
                self.judged("wrong" if shown is None else "missed", web, purse, wish, saying([]))
        self.assertEqual({"right", "missed"}, set(words))


class ShortBy(Case):
    def test_by_hand(self):
        self.told(ZERO, short_by, EVEN, PURSE, 1, brim_deal)
        self.told((3, 5), short_by, EVEN, PURSE, 1, saying([]))
        self.told((1, 10), short_by, EVEN, PURSE, 1, saying([(0, 0, ONE)]))
        self.told((4, 15), short_by, EVEN, PURSE, 1, saying([(0, 0, (1, 2))]))
        self.told(ZERO, short_by, LONE, [(7, 2)], 0, saying([]))
        self.told(ZERO, short_by, EVEN, NONE, 2, saying([]))
        self.told((1, 10), short_by, ODD, NONE, 2, saying([]))

    def test_brim_deals_are_short_by_0(self):
        for web, purse, _ in cases(231, 100, 5):
            for ware in range(web.wares):
                self.told(ZERO, short_by, web, purse, ware, brim_deal)
                most = worth(brim(web, purse, ware)) - worth(purse[ware])
                self.told(pair(most), short_by, web, purse, ware, saying([]))

    def test_any_deal_without_debts_is_short_of_the_brim(self):
        for web in webs(232, 60, 4):
            purse = [(2, 1)] * web.wares
            for index in range(len(web.stalls)):
                for ware in web.stalls[index][:2]:
                    deal = [(index, ware, ONE)]
                    has = played(web, purse, deal)[1]
                    for other in range(web.wares):
                        short = worth(brim(web, purse, other)) - worth(has[other])
                        self.assertTrue(short >= 0)
                        self.told(pair(short), short_by, web, purse, other, saying(deal))

    def test_what_is_no_deal_without_debts(self):
        wrong = odd_things() + [
            None, (), ((0, 0, ONE),), [(0, 0, ZERO)], [(0, 2, ONE)], [(3, 0, ONE)], [[0, 0, ONE]],
            [(0, 0, ONE), None], [(0, 0, (2, 1))], [(1, 1, ONE)], [(0, 0, (1, 10 ** 9))] * 201,
            [(0, 0, ONE), (2, 0, (1, 100))],
        ]
        for thing in wrong:
            if not (isinstance(thing, list) and thing == []):
                self.refused(BadBroker, {}, short_by, EVEN, PURSE, 1, saying(thing))

    def test_what_is_owed_meanwhile_does_not_count(self):
        deal = [(0, 0, (2, 1)), (0, 1, (1, 6))]
        has = played(EVEN, PURSE, deal)[1]
        self.assertTrue(all(one[0] >= 0 for one in has))
        self.told(pair(worth((3, 5)) - worth(has[1])), short_by, EVEN, PURSE, 1, saying(deal))

    def test_200_moves_and_201(self):
        moves = [(0, 0, (1, 200))] * 200
        self.told((1, 10), short_by, EVEN, PURSE, 1, saying(moves))
        self.refused(BadBroker, {}, short_by, EVEN, ((2, 1), ZERO, ZERO), 1, saying(moves + moves[:1]))

    def test_lists_that_brokers_change(self):
        def poorer(web, purse, ware):
            purse[0] = ZERO
            purse.append(1)
            return [(0, 0, ONE)]

        self.assertEqual((1, 10), short_by(EVEN, list(PURSE), 1, poorer))

        def richer(web, purse, ware):
            purse[0] = (9, 1)
            return [(0, 0, (2, 1))]

        with self.assertRaises(BadBroker):
            short_by(EVEN, list(PURSE), 1, richer)

    def test_brokers_are_called_once_with_what_was_passed(self):
        calls = []
        purse = list(PURSE)
        short_by(EVEN, purse, 2, lambda *told: calls.append(told) or [])
        self.assertEqual(1, len(calls))
        self.assertIs(EVEN, calls[0][0])
        self.assertIs(purse, calls[0][1])
        self.assertEqual(2, calls[0][2])

    def test_own_errors_go_on(self):
        with self.assertRaises(Oops):
            short_by(EVEN, PURSE, 1, failing)

    def test_purses_and_wares_are_asked_first(self):
        for wrong in wrong_rows(3):
            self.refused(BadPurse, {}, short_by, EVEN, wrong, None, never)
        for wrong in wrong_wares(3):
            self.refused(BadWare, {}, short_by, EVEN, PURSE, wrong, never)


if __name__ == "__main__":
    unittest.main()
