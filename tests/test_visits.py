"""Point 14.2: the class Visit."""

import random
import unittest

from rootstalls.brims import brim
from rootstalls.deals import is_deal, moved, owes, played
from rootstalls.errors import (
    BadDeal, BadMove, BadPurse, BadWare, BadWish, NothingDone,
)
from rootstalls.visits import Visit
from rootstalls.webs import Web
from rootstalls.wishes import deal_for
from tests.samples import (
    BARE, EVEN, LONE, NONE, ODD, ONE, SPLIT, ZERO, Case, cases, odd_things, pair, random_row,
    some_number, webs, worth, wrong_integers, wrong_rows, wrong_somes, wrong_wares,
)

PURSE = (ONE, ZERO, ZERO)
MET = (ZERO, (3, 5), ZERO)
MISSED = (ZERO, (2, 3), ZERO)


class Oops(Exception):
    pass


def state(visit):
    return (visit.now(), visit.has(), visit.depth())


def all_states(visit):
    """What a Visit tells now and each time that it is taken back."""
    visit = visit.copy()
    found = [state(visit)]
    while visit.depth():
        visit.back()
        found.append(state(visit))
    return found


def states_of(web, purse, deal):
    """The same of the moves of a deal, each deal up to them played at once."""
    return [
        played(web, purse, deal[:many]) + (many,) for many in range(len(deal), -1, -1)
    ]


def random_moves(chance, web, number):
    found = []
    for _ in range(number):
        index = chance.randrange(len(web.stalls))
        found.append((index, chance.choice(web.stalls[index][:2]), pair(some_number(chance))))
    return found


def visits(seed, number, most_moves=6):
    """Webs, purses and moves."""
    chance = random.Random(seed)
    for web in webs(seed, number, 4, 6):
        many = chance.randint(0, most_moves) if web.stalls else 0
        yield web, random_row(chance, web.wares), random_moves(chance, web, many)


class Moves(Case):
    def test_by_hand(self):
        visit = Visit(EVEN, PURSE)
        self.assertEqual((EVEN, PURSE, 0), state(visit))
        self.assertIsNone(visit.put(0, 0, ONE))
        self.assertEqual((ZERO, (1, 2), ZERO), visit.has())
        self.assertEqual(moved(EVEN, (0, 0, ONE)), visit.now())
        self.assertIsNone(visit.put(1, 1, (1, 2)))
        self.assertEqual((ZERO, ZERO, (1, 3)), visit.has())
        visit.put(2, 0, (2, 1))
        self.assertEqual(((-2, 1), ZERO, ONE), visit.has())
        self.assertEqual(3, visit.depth())
        self.assertIsNone(visit.back())
        self.assertEqual((ZERO, ZERO, (1, 3)), visit.has())

    def test_purses_are_kept(self):
        purse = list(PURSE)
        visit = Visit(EVEN, purse)
        purse[0] = (9, 1)
        purse.append(ONE)
        visit.put(0, 0, ONE)
        self.assertEqual((ZERO, (1, 2), ZERO), visit.has())
        self.assertIs(False, visit.can(MISSED))
        self.assertEqual((3, 5), visit.most(1))

    def test_each_move_is_one_step_back(self):
        for web, purse, deal in visits(250, 60):
            visit = Visit(web, purse)
            for index, ware, amount in deal:
                visit.put(index, ware, amount)
            self.assertEqual(states_of(web, purse, deal), all_states(visit))
            at_once = Visit(web, tuple(purse))
            self.assertIsNone(at_once.play(deal))
            self.assertEqual(states_of(web, purse, deal), all_states(at_once))

    def test_play_takes_any_row(self):
        visit = Visit(EVEN, PURSE)
        visit.play(((0, 0, ONE),))
        visit.play([])
        visit.play(())
        self.assertEqual(1, visit.depth())
        visit.play([(0, 1, (1, 2))])
        self.assertEqual((EVEN, PURSE, 2), state(visit))

    def test_200_moves_and_201(self):
        moves = [(0, 0, ONE), (0, 1, (1, 2))] * 100
        visit = Visit(EVEN, NONE)
        visit.play(moves)
        self.assertEqual((EVEN, NONE, 200), state(visit))
        self.refused(BadDeal, {"index": -1}, visit.play, moves + moves[:1])
        self.assertEqual((EVEN, NONE, 200), state(visit))
        # The moves of several deals may be more.
        visit.play(moves)
        visit.put(0, 0, ONE)
        self.assertEqual(401, visit.depth())
        self.assertEqual(((-1, 1), (1, 2), ZERO), visit.has())
        for _ in range(401):
            visit.back()
        self.assertEqual((EVEN, NONE, 0), state(visit))

    def test_debts_are_told(self):
        for web, purse, deal in visits(251, 60):
            visit = Visit(web, purse)
            visit.play(deal)
            first = owes(web, purse, deal)
            found = None
            for at, (_, has, _) in enumerate(all_states(visit)[::-1][1:]):
                owed = [ware for ware, one in enumerate(has) if one[0] < 0]
                if owed and found is None:
                    found = (at, owed[0])
            self.assertEqual(first, found)

    def test_back_to_the_beginning(self):
        visit = Visit(LONE, [ONE])
        self.refused(NothingDone, {}, visit.back)
        visit = Visit(EVEN, PURSE)
        visit.put(0, 0, ONE)
        visit.back()
        self.refused(NothingDone, {}, visit.back)
        self.assertEqual((EVEN, PURSE, 0), state(visit))

    def test_what_is_refused_changes_nothing(self):
        visit = Visit(EVEN, PURSE)
        visit.put(0, 0, ONE)
        before = all_states(visit)
        for wrong in wrong_integers():
            self.refused(BadMove, {}, visit.put, wrong, 0, ONE)
            self.refused(BadMove, {}, visit.put, 0, wrong, ONE)
        for wrong in wrong_somes():
            self.refused(BadMove, {}, visit.put, 0, 0, wrong)
            self.refused(BadDeal, {"index": 1}, visit.play, [(0, 0, ONE), (0, 0, wrong)])
        for move in [(3, 0, ONE), (-1, 0, ONE), (0, 2, ONE), (1, 0, ONE), (0, -1, ONE)]:
            self.refused(BadMove, {}, visit.put, *move)
            self.refused(BadDeal, {"index": 2}, visit.play, [(0, 0, ONE), (1, 1, ONE), move, None])
        for wrong in odd_things():
            if not isinstance(wrong, (list, tuple)) or len(wrong) > 200:
                self.refused(BadDeal, {"index": -1}, visit.play, wrong)
            elif wrong:
                self.refused(BadDeal, {"index": 0}, visit.play, wrong)
            self.refused(BadDeal, {"index": 0}, visit.play, [wrong])
        for wrong in wrong_rows(3):
            self.refused(BadWish, {}, visit.can, wrong)
            self.refused(BadWish, {}, visit.finish, wrong)
            self.refused(BadPurse, {}, Visit, EVEN, wrong)
        for wrong in wrong_wares(3):
            self.refused(BadWare, {}, visit.most, wrong)
        self.assertEqual(before, all_states(visit))


class Wishes(Case):
    def test_by_hand(self):
        visit = Visit(EVEN, PURSE)
        for _ in range(2):
            self.assertIs(True, visit.can(MET))
            self.assertIs(True, visit.can(list(MET)))
            self.assertIs(False, visit.can(MISSED))
            self.assertEqual((3, 5), visit.most(1))
            self.assertEqual(ONE, visit.most(0))
            visit.put(0, 1, (7, 1))

    def test_no_move_changes_what_can_be_met(self):
        answers = []
        for at, (web, purse, wish) in enumerate(cases(252, 120, 4)):
            visit = Visit(web, purse)
            if web.stalls:
                visit.play(random_moves(random.Random(at), web, 3))
            answers.append(deal_for(web, purse, wish) is not None)
            self.assertIs(answers[-1], visit.can(wish))
            for ware in range(web.wares):
                self.assertEqual(brim(web, purse, ware), visit.most(ware))
        self.assertEqual({True, False}, set(answers))

    def test_who_owes_nothing_is_a_customer_with_that_purse(self):
        many = 0
        for web, purse, deal in visits(253, 80, 3):
            visit = Visit(web, purse)
            visit.play(deal)
            if all(one[0] >= 0 for one in visit.has()):
                many += 1
                for ware in range(web.wares):
                    self.assertEqual(brim(visit.now(), visit.has(), ware), visit.most(ware))
        self.assertTrue(many > 20)

    def test_finish(self):
        met = []
        for at, (web, purse, wish) in enumerate(cases(254, 120, 4)):
            visit = Visit(web, purse)
            if web.stalls:
                visit.play(random_moves(random.Random(at), web, at % 4))
            before = all_states(visit)
            can = visit.can(wish)
            moves = visit.finish(wish)
            met.append(can)
            if not can:
                self.assertIsNone(moves)
                self.assertEqual(before, all_states(visit))
                continue
            self.assertIs(list, moves.__class__)
            self.assertEqual(before[0][2] + len(moves), visit.depth())
            behind = all_states(visit)
            self.assertEqual(before, behind[len(moves):])
            for has, least in zip(visit.has(), wish):
                self.assertTrue(worth(has) >= worth(least))
            # Each move is one step back, and each makes the web that it leads to.
            for step, move in enumerate(moves):
                place = len(moves) - step
                self.assertEqual(moved(behind[place][0], move), behind[place - 1][0])
            moves.append("changed")
            self.assertEqual(behind, all_states(visit))
        self.assertEqual({True, False}, set(met))

    def test_finish_of_a_fresh_visit_is_a_deal(self):
        for web, purse, wish in cases(255, 60, 4):
            moves = Visit(web, purse).finish(wish)
            self.assertEqual(deal_for(web, purse, wish) is None, moves is None)
            if moves is not None:
                self.assertIs(True, is_deal(web, purse, wish, moves))

    def test_finish_when_the_wish_is_met(self):
        visit = Visit(EVEN, PURSE)
        self.assertEqual([], Visit(LONE, [ONE]).finish([ONE]))
        self.assertIsNone(Visit(LONE, [ONE]).finish([(2, 1)]))
        visit.finish(PURSE)
        self.assertTrue(worth(visit.has()[0]) >= 1)
        self.assertIsNone(visit.finish(MISSED))
        visit.finish(MET)
        self.assertEqual((3, 5), visit.has()[1])

    def test_unlike_pieces_and_no_stalls(self):
        visit = Visit(SPLIT, [ONE] * 6)
        visit.put(0, 1, ONE)
        self.assertIs(True, visit.can([ONE] * 6))
        self.assertIs(False, visit.can([ONE, ONE, ONE, (2, 1), ONE, ONE]))
        bare = Visit(BARE, [ONE] * 4)
        self.assertEqual(ONE, bare.most(3))
        self.assertEqual([], bare.finish([ONE] * 4))
        self.refused(BadMove, {}, bare.put, 0, 0, ONE)


class Copies(Case):
    def test_they_go_on_apart(self):
        visit = Visit(EVEN, PURSE)
        visit.put(0, 0, ONE)
        twin = visit.copy()
        self.assertIs(Visit, twin.__class__)
        self.assertEqual(all_states(visit), all_states(twin))
        twin.put(1, 1, (1, 2))
        visit.back()
        self.assertEqual((EVEN, PURSE, 0), state(visit))
        self.assertEqual(states_of(EVEN, PURSE, [(0, 0, ONE), (1, 1, (1, 2))]), all_states(twin))
        self.assertEqual((3, 5), twin.most(1))
        self.assertIs(False, twin.can(MISSED))

    def test_copies_finish_apart(self):
        visit = Visit(ODD, NONE)
        twin = visit.copy()
        twin.finish((ZERO, (1, 7), ZERO))
        self.assertEqual((ODD, NONE, 0), state(visit))
        self.assertEqual((1, 7), twin.has()[1])


class Trials(Case):
    def test_behind_it_all_is_as_it_was(self):
        visit = Visit(EVEN, PURSE)
        visit.put(0, 0, ONE)
        before = all_states(visit)

        def deed(one):
            self.assertIs(visit, one)
            one.back()
            one.finish(MET)
            return [one.depth(), one.has()[1]]

        self.assertEqual((3, 5), visit.trying(deed)[1])
        self.assertEqual(before, all_states(visit))

    def test_also_behind_an_error(self):
        visit = Visit(EVEN, PURSE)
        visit.put(0, 0, ONE)
        before = all_states(visit)

        def deed(one):
            one.put(1, 1, ONE)
            raise Oops("mine")

        with self.assertRaises(Oops) as caught:
            visit.trying(deed)
        self.assertEqual(("mine",), caught.exception.args)
        self.assertEqual(before, all_states(visit))
        self.refused(BadMove, {}, visit.trying, lambda one: one.back() or one.put(7, 0, ONE))
        self.assertEqual(before, all_states(visit))

    def test_trials_within_trials(self):
        visit = Visit(EVEN, PURSE)

        def outer(one):
            one.put(0, 0, ONE)
            inner = one.trying(lambda two: two.put(1, 1, (1, 2)) or state(two))
            self.assertEqual((ZERO, ZERO, (1, 3)), inner[1])
            self.assertEqual(2, inner[2])
            self.assertEqual((ZERO, (1, 2), ZERO), one.has())
            return one.copy()

        twin = visit.trying(outer)
        self.assertEqual(1, twin.depth())
        self.assertEqual((EVEN, PURSE, 0), state(visit))


class Equality(Case):
    def test_beside_things_of_another_class(self):
        visit = Visit(EVEN, PURSE)
        for thing in odd_things() + [EVEN]:
            self.assertFalse(visit == thing)
            self.assertFalse(thing == visit)
        self.assertTrue(visit == visit)
        self.assertEqual(Web(3, EVEN.stalls), visit.now())


if __name__ == "__main__":
    unittest.main()
