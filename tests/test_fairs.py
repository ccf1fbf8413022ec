"""Point 14.1: the class Fair."""

import random
import unittest

from rootstalls.brims import brim, brim_deal
from rootstalls.deals import led, played
from rootstalls.errors import (
    BadAmount, BadDeal, BadIndex, BadPurse, BadStall, BadWare, BadWish, NothingDone,
)
from rootstalls.fairs import Fair
from rootstalls.told import without
from rootstalls.webs import Web
from rootstalls.wishes import deal_for
from tests.samples import (
    BARE, EVEN, FULL, LARGE, LONE, NONE, ODD, ONE, ZERO, Case, odd_things, pair, random_row,
    random_web, some_number, webs, worth, wrong_integers, wrong_rows, wrong_somes, wrong_wares,
)

PURSE = (ONE, ZERO, ZERO)
STALL = (0, 1, ONE, (4, 1), (2, 1))


class Oops(Exception):
    pass


def all_webs(fair):
    """The web now and each time that the Fair is taken back."""
    fair = fair.copy()
    found = [fair.now()]
    while fair.depth():
        fair.back()
        found.append(fair.now())
    return found


def filled(web, index, factor):
    """The web with one stall filled, by hand."""
    stall = web.stalls[index]
    numbers = [pair(worth(one) * factor) for one in stall[2:]]
    return Web(web.wares, web.stalls[:index] + (stall[:2] + tuple(numbers),) + web.stalls[index + 1:])


def random_change(chance, fair):
    """Makes a change, and tells the web that it ought to lead to."""
    web = fair.now()
    kinds = ["put_up"] if len(web.stalls) < 12 else []
    if web.stalls:
        kinds += ["strike", "fill", "lead", "deal"]
    kind = chance.choice(kinds)
    index = chance.randrange(len(web.stalls)) if web.stalls else None
    number = some_number(chance)
    if kind == "put_up":
        stall = random_web(chance, web.wares, 1).stalls[0]
        fair.put_up(stall)
        return Web(web.wares, web.stalls + (stall,))
    if kind == "strike":
        fair.strike(index)
        return Web(web.wares, web.stalls[:index] + web.stalls[index + 1:])
    if kind == "fill":
        fair.fill(index, pair(number))
        return filled(web, index, number)
    if kind == "lead":
        fair.lead(index, pair(number))
        return led(web, index, pair(number))
    purse = random_row(chance, web.wares)
    deal = [(index, chance.choice(web.stalls[index][:2]), pair(number))]
    has = fair.deal(purse, deal)
    behind = played(web, purse, deal)
    assert behind[1] == has
    return behind[0]


class Changes(Case):
    def test_stalls_are_put_up_behind_the_others(self):
        fair = Fair(EVEN)
        self.assertEqual(EVEN, fair.now())
        self.assertEqual(0, fair.depth())
        self.assertIsNone(fair.put_up(STALL))
        self.assertEqual(Web(3, EVEN.stalls + (STALL,)), fair.now())
        fair.put_up(STALL)
        self.assertEqual(Web(3, EVEN.stalls + (STALL, STALL)), fair.now())
        self.assertEqual(2, fair.depth())
        self.assertEqual([fair.now(), Web(3, EVEN.stalls + (STALL,)), EVEN], all_webs(fair))

    def test_16_stalls_and_a_seventeenth(self):
        fair = Fair(Web(8, FULL.stalls[:15]))
        fair.put_up(FULL.stalls[15])
        self.assertEqual(FULL, fair.now())
        self.refused(BadStall, {"index": 16}, fair.put_up, FULL.stalls[0])
        self.refused(BadStall, {"index": 16}, fair.put_up, None)
        self.assertEqual(FULL, fair.now())
        self.assertEqual(1, fair.depth())
        fair.strike(0)
        fair.put_up(FULL.stalls[0])
        self.assertEqual(Web(8, FULL.stalls[1:] + FULL.stalls[:1]), fair.now())

    def test_stalls_are_taken_away(self):
        fair = Fair(ODD)
        self.assertIsNone(fair.strike(1))
        self.assertEqual(without(ODD, 1), fair.now())
        fair.strike(1)
        self.assertEqual(Web(3, ODD.stalls[:1]), fair.now())
        fair.strike(0)
        self.assertEqual(Web(3, []), fair.now())
        self.refused(BadIndex, {}, fair.strike, 0)
        self.assertEqual(3, fair.depth())

    def test_stalls_are_filled(self):
        fair = Fair(ODD)
        self.assertIsNone(fair.fill(2, (3, 2)))
        self.assertEqual(Web(3, ODD.stalls[:2] + ((0, 2, (3, 1), (3, 4), (3, 2)),)), fair.now())
        fair.fill(2, (2, 3))
        self.assertEqual(ODD, fair.now())
        fair.fill(0, ONE)
        self.assertEqual(ODD, fair.now())
        self.assertEqual(3, fair.depth())
        fair.fill(0, (LARGE, 1))
        self.assertEqual(Web(3, ((0, 1) + ((LARGE, 1),) * 3,) + ODD.stalls[1:]), fair.now())

    def test_stalls_are_led(self):
        fair = Fair(EVEN)
        self.assertIsNone(fair.lead(2, (2, 1)))
        self.assertEqual(ODD, fair.now())
        fair.lead(2, (2, 1))
        self.assertEqual(ODD, fair.now())
        self.assertEqual(2, fair.depth())
        fair.lead(2, ONE)
        self.assertEqual(EVEN, fair.now())

    def test_deals(self):
        fair = Fair(EVEN)
        deal = [(0, 0, ONE), (1, 1, (1, 2))]
        self.assertEqual((ZERO, ZERO, (1, 3)), fair.deal(PURSE, deal))
        self.assertEqual(played(EVEN, PURSE, deal)[0], fair.now())
        self.assertEqual(1, fair.depth())
        self.assertEqual(((-2, 1), (1, 4), ZERO), fair.deal(NONE, ((0, 0, (2, 1)),)))
        self.assertEqual(PURSE, fair.deal(list(PURSE), []))
        self.assertEqual(3, fair.depth())
        fair.back()
        fair.back()
        self.assertEqual(played(EVEN, PURSE, deal)[0], fair.now())
        fair.back()
        self.assertEqual(EVEN, fair.now())

    def test_changes_that_leave_the_web_as_it_was_are_changes(self):
        fair = Fair(EVEN)
        fair.lead(0, ONE)
        fair.fill(1, ONE)
        fair.deal(NONE, [])
        fair.deal(NONE, [(0, 0, ONE), (0, 1, (1, 2))])
        self.assertEqual([EVEN] * 5, all_webs(fair))
        self.assertEqual(4, fair.depth())

    def test_back_to_the_beginning(self):
        fair = Fair(LONE)
        self.refused(NothingDone, {}, fair.back)
        fair.deal([ONE], ())
        self.assertIsNone(fair.back())
        self.refused(NothingDone, {}, fair.back)
        self.assertEqual(LONE, fair.now())
        self.assertEqual(0, fair.depth())

    def test_many_changes_as_made_by_hand(self):
        chance = random.Random(240)
        for web in webs(240, 40, 4):
            if web.wares == 1:
                continue
            fair = Fair(web)
            wanted = [web]
            for _ in range(chance.randint(1, 8)):
                wanted.append(random_change(chance, fair))
                self.assertEqual(wanted[-1], fair.now())
                self.assertEqual(len(wanted) - 1, fair.depth())
                if chance.random() < 0.25:
                    fair.back()
                    wanted.pop()
            self.assertEqual(wanted[::-1], all_webs(fair))

    def test_what_is_refused_changes_nothing(self):
        fair = Fair(EVEN)
        fair.lead(2, (2, 1))
        no_stalls = [
            0, STALL[:4], list(STALL), (0, 3) + STALL[2:], (0, 1, ONE, ONE, (2, 1)), (0, 0) + STALL[2:],
        ]
        for wrong in odd_things() + no_stalls:
            self.refused(BadStall, {"index": 3}, fair.put_up, wrong)
        for wrong in wrong_integers() + [-1, 3, 10 ** 11]:
            self.refused(BadIndex, {}, fair.strike, wrong)
            self.refused(BadIndex, {}, fair.fill, wrong, None)
            self.refused(BadIndex, {}, fair.lead, wrong, None)
        for wrong in wrong_somes():
            self.refused(BadAmount, {}, fair.fill, 0, wrong)
            self.refused(BadAmount, {}, fair.lead, 0, wrong)
        for wrong in wrong_rows(3):
            self.refused(BadPurse, {}, fair.deal, wrong, None)
            self.refused(BadPurse, {}, fair.meets, wrong, None)
            self.refused(BadPurse, {}, fair.most, wrong, None)
            self.refused(BadWish, {}, fair.meets, NONE, wrong)
        for wrong in wrong_wares(3):
            self.refused(BadWare, {}, fair.most, NONE, wrong)
        for wrong in odd_things():
            if not (isinstance(wrong, (list, tuple)) and 0 < len(wrong) <= 200):
                self.refused(BadDeal, {"index": -1}, fair.deal, NONE, wrong)
            elif wrong:
                self.refused(BadDeal, {"index": 0}, fair.deal, NONE, wrong)
        self.refused(BadDeal, {"index": 1}, fair.deal, NONE, [(0, 0, ONE), (0, 2, ONE), None])
        self.refused(BadDeal, {"index": -1}, fair.deal, NONE, [(0, 0, ONE)] * 201)
        self.assertEqual([ODD, EVEN], all_webs(fair))

    def test_stalls_of_a_web_of_one_ware(self):
        fair = Fair(LONE)
        self.refused(BadStall, {"index": 0}, fair.put_up, STALL)
        self.refused(BadIndex, {}, fair.strike, 0)
        self.refused(BadIndex, {}, fair.fill, 0, ZERO)
        self.refused(BadIndex, {}, fair.lead, 0, ZERO)


class Asking(Case):
    def test_wishes_and_brims_of_the_web_now(self):
        fair = Fair(EVEN)
        self.assertIs(True, fair.meets(PURSE, (ZERO, (3, 5), ZERO)))
        self.assertIs(False, fair.meets(PURSE, (ZERO, (2, 3), ZERO)))
        self.assertEqual((3, 5), fair.most(PURSE, 1))
        fair.strike(2)
        self.assertEqual((1, 2), fair.most(list(PURSE), 1))
        self.assertIs(False, fair.meets(PURSE, [ZERO, (3, 5), ZERO]))
        fair.strike(0)
        self.assertEqual(ZERO, fair.most(PURSE, 1))
        self.assertEqual(ONE, fair.most(PURSE, 0))
        self.assertEqual(2, fair.depth())

    def test_as_the_functions_tell(self):
        chance = random.Random(241)
        met = []
        for web in webs(241, 60, 4):
            if web.wares == 1:
                continue
            fair = Fair(web)
            for _ in range(3):
                random_change(chance, fair)
                purse, wish = random_row(chance, web.wares), random_row(chance, web.wares)
                met.append(deal_for(fair.now(), purse, wish) is not None)
                self.assertIs(met[-1], fair.meets(purse, wish))
                for ware in range(web.wares):
                    self.assertEqual(brim(fair.now(), purse, ware), fair.most(purse, ware))
        self.assertEqual({True, False}, set(met))

    def test_a_stall_more_and_a_filling_by_1_or_more_take_no_wish_away(self):
        chance = random.Random(242)
        for web in webs(242, 60, 4, 8):
            if not web.stalls:
                continue
            fair = Fair(web)
            purse = random_row(chance, web.wares)
            before = [worth(fair.most(purse, ware)) for ware in range(web.wares)]
            fair.put_up(random_web(chance, web.wares, 1).stalls[0])
            more = [worth(fair.most(purse, ware)) for ware in range(web.wares)]
            fair.fill(chance.randrange(len(web.stalls)), pair(1 + some_number(chance)))
            most = [worth(fair.most(purse, ware)) for ware in range(web.wares)]
            for least, between, greatest in zip(before, more, most):
                self.assertTrue(least <= between <= greatest)

    def test_what_a_brim_deal_leaves(self):
        fair = Fair(ODD)
        self.assertEqual((1, 7), fair.deal(NONE, brim_deal(ODD, NONE, 1))[1])
        self.assertEqual([ZERO] * 3, [fair.most(NONE, ware) for ware in range(3)])


class Copies(Case):
    def test_they_go_on_apart(self):
        fair = Fair(EVEN)
        fair.lead(2, (2, 1))
        twin = fair.copy()
        self.assertIs(Fair, twin.__class__)
        self.assertEqual(ODD, twin.now())
        self.assertEqual(1, twin.depth())
        twin.strike(0)
        fair.back()
        self.assertEqual(without(ODD, 0), twin.now())
        self.assertEqual(EVEN, fair.now())
        fair.fill(0, (2, 1))
        self.assertEqual([without(ODD, 0), ODD, EVEN], all_webs(twin))
        self.assertEqual([filled(EVEN, 0, 2), EVEN], all_webs(fair))

    def test_copies_of_copies(self):
        fair = Fair(BARE)
        one = fair.copy().copy()
        one.put_up(STALL)
        self.assertEqual([BARE], all_webs(fair))
        self.assertEqual(1, one.copy().depth())


class Trials(Case):
    def test_behind_it_all_is_as_it_was(self):
        fair = Fair(EVEN)
        fair.lead(2, (2, 1))

        def deed(one):
            self.assertIs(fair, one)
            one.back()
            one.strike(0)
            one.strike(0)
            return ["told", one.now(), one.depth()]

        self.assertEqual(["told", Web(3, EVEN.stalls[2:]), 2], fair.trying(deed))
        self.assertEqual([ODD, EVEN], all_webs(fair))
        self.assertIsNone(fair.trying(lambda one: None))

    def test_also_behind_an_error(self):
        fair = Fair(EVEN)
        fair.lead(2, (2, 1))

        def deed(one):
            one.back()
            one.back()

        self.refused(NothingDone, {}, fair.trying, deed)

        def other_deed(one):
            one.strike(0)
            raise Oops("mine")

        with self.assertRaises(Oops) as caught:
            fair.trying(other_deed)
        self.assertEqual(("mine",), caught.exception.args)
        self.assertEqual([ODD, EVEN], all_webs(fair))

    def test_trials_within_trials(self):
        fair = Fair(EVEN)
        seen = []

        def inner(one):
            one.strike(0)
            seen.append(all_webs(one))
            return 7

        def outer(one):
            one.lead(2, (2, 1))
            self.assertEqual(7, one.trying(inner))
            seen.append(all_webs(one))
            with self.assertRaises(Oops):
                one.trying(failing)
            seen.append(all_webs(one))
            return one.copy()

        def failing(one):
            one.fill(0, (2, 1))
            raise Oops()

        twin = fair.trying(outer)
        self.assertEqual([[without(ODD, 0), ODD, EVEN], [ODD, EVEN], [ODD, EVEN]], seen)
        self.assertEqual([ODD, EVEN], all_webs(twin))
        self.assertEqual([EVEN], all_webs(fair))

    def test_methods_as_deeds(self):
        fair = Fair(EVEN)
        fair.strike(0)
        self.assertEqual(EVEN, fair.trying(lambda one: one.back() or one.now()))
        self.assertEqual(1, fair.trying(Fair.depth))
        self.assertIsNone(fair.trying(Fair.back))
        self.assertEqual(1, fair.depth())


class Equality(Case):
    def test_beside_things_of_another_class(self):
        fair = Fair(EVEN)
        for thing in odd_things() + [EVEN]:
            self.assertFalse(fair == thing)
            self.assertFalse(thing == fair)
            self.assertTrue(fair != thing)
        self.assertTrue(fair == fair)


if __name__ == "__main__":
    unittest.main()
