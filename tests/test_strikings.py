"""Point 3.6: the class Striking."""

import random
import unittest
from fractions import Fraction

from rootstalls.errors import (
    BadAmount, BadPurse, BadWare, BadWish, NothingDone, WrongSign,
)
from rootstalls.strikings import Striking
from rootstalls.webs import Web
from tests import oracle
from tests.samples import (
    BARE, EVEN, FULL, LARGE, LONE, NONE, ODD, ONE, SPLIT, ZERO, Case, cases, pair, pairs,
    some_number, wrong_amounts, wrong_integers, wrong_rows, wrong_wares,
)

PAIR = Web(2, [(0, 1, ONE, ONE, ONE)])


def state(striking):
    """All that a Striking tells."""
    left = striking.left()
    return (
        left, [striking.slant(ware) for ware in left], [striking.could(ware) for ware in left],
        [striking.root(one, other) for one in left for other in left if one != other],
        striking.depth(),
    )


def state_by_hand(web, purse, wish, order, depth):
    """What a Striking tells behind strikes in this order."""
    rows = oracle.behind(oracle.matrix(web, purse, wish), order)[0]
    left = tuple(ware for ware in range(web.wares) if ware not in order)
    could = []
    for ware in left:
        tied = any(rows[ware][other] for other in left if other != ware)
        could.append(rows[ware][ware] > 0 or (rows[ware][ware] == 0 and not tied))
    return (
        left, [pair(rows[ware][ware]) for ware in left], could,
        [pair(-rows[one][other]) for one in left for other in left if one != other], depth,
    )


def all_states(striking):
    """What a Striking tells now and each time that it is taken back."""
    states = [state(striking)]
    while striking.depth():
        striking.back()
        states.append(state(striking))
    return states


class Oops(Exception):
    pass


class Strikes(Case):
    def test_by_hand(self):
        striking = Striking(EVEN, NONE, list(NONE))
        self.assertEqual((0, 1, 2), striking.left())
        self.assertEqual((2, 1), striking.slant(1))
        self.assertEqual(ONE, striking.root(2, 1))
        self.assertIsNone(striking.strike(0))
        self.assertEqual((1, 2), striking.left())
        self.assertEqual((3, 2), striking.slant(1))
        self.assertEqual((3, 2), striking.root(1, 2))
        self.assertIsNone(striking.strike(2))
        self.assertEqual((1,), striking.left())
        self.assertEqual(ZERO, striking.slant(1))
        self.assertIs(True, striking.could(1))
        self.assertIsNone(striking.strike(1))
        self.assertEqual((), striking.left())
        self.assertEqual(3, striking.depth())

    def test_wares_without_stalls(self):
        striking = Striking(BARE, [ONE] * 4, [ZERO, ONE, (2, 1), ZERO])
        self.assertEqual(ZERO, striking.slant(1))
        self.assertEqual(ZERO, striking.root(1, 3))
        self.assertEqual([True, True, False, True], [striking.could(ware) for ware in range(4)])
        self.refused(WrongSign, {"ware": 2}, striking.strike, 2)
        for ware in (1, 0, 3):
            striking.strike(ware)
        self.assertEqual((2,), striking.left())
        self.refused(WrongSign, {"ware": 2}, striking.strike, 2)
        self.assertEqual(3, striking.depth())
        alone = Striking(LONE, [ZERO], [ZERO])
        self.assertIs(True, alone.could(0))
        alone.strike(0)
        self.assertEqual((), alone.left())

    def test_slants_of_0(self):
        striking = Striking(PAIR, [ZERO, ZERO], [ONE, ZERO])
        self.assertEqual(ZERO, striking.slant(0))
        self.assertIs(False, striking.could(0))
        self.refused(WrongSign, {"ware": 0}, striking.strike, 0)
        self.assertEqual((0, 1), striking.left())
        self.assertEqual(0, striking.depth())
        self.assertIs(True, striking.could(1))
        striking.strike(1)
        self.assertEqual((-1, 1), striking.slant(0))
        self.refused(WrongSign, {"ware": 0}, striking.strike, 0)
        striking.more(0, ONE)
        self.assertEqual(ZERO, striking.slant(0))
        self.assertIs(True, striking.could(0))
        striking.strike(0)
        self.assertEqual((), striking.left())

    def test_more_of_a_struck_ware(self):
        striking = Striking(EVEN, NONE, NONE)
        striking.strike(0)
        self.assertIsNone(striking.more(0, ONE))
        self.assertEqual([(5, 3), (5, 3)], [striking.slant(1), striking.slant(2)])
        self.assertEqual((4, 3), striking.root(1, 2))
        striking.strike(2)
        self.assertEqual((3, 5), striking.slant(1))
        striking.more(2, (LARGE, 1))
        self.assertEqual(pair(Fraction(5, 3) - Fraction(16, 9) / (Fraction(5, 3) + LARGE)), striking.slant(1))
        striking.more(1, (1, LARGE))
        striking.back()
        striking.back()
        self.assertEqual((3, 5), striking.slant(1))
        self.assertEqual((1,), striking.left())
        striking.back()
        self.assertEqual((5, 3), striking.slant(2))
        striking.back()
        self.assertEqual((3, 2), striking.slant(2))
        striking.back()
        self.assertEqual(state(Striking(EVEN, NONE, NONE)), state(striking))

    def test_more_of_0_is_a_change_too(self):
        striking = Striking(ODD, NONE, NONE)
        striking.more(1, ZERO)
        self.assertEqual(1, striking.depth())
        striking.strike(1)
        striking.more(1, ZERO)
        self.assertEqual(3, striking.depth())
        before = state(striking)[:-1]
        striking.back()
        self.assertEqual(before, state(striking)[:-1])
        self.assertEqual(2, striking.depth())

    def test_more_than_a_struck_slant_of_0(self):
        striking = Striking(PAIR, [ZERO, ZERO], [ZERO, ZERO])
        striking.strike(0)
        striking.strike(1)
        striking.more(1, ONE)
        striking.more(0, ONE)
        self.assertEqual(((), [], [], [], 4), state(striking))
        bare = Striking(BARE, [ZERO] * 4, [ZERO] * 4)
        bare.strike(2)
        bare.more(2, ONE)
        self.assertEqual((0, 1, 3), bare.left())

    def test_as_reckoned_from_the_first_on(self):
        chance = random.Random(71)
        for web, purse, wish in list(cases(71, 120)) + [(FULL, [ONE] * 8, [ZERO] * 8)]:
            striking = Striking(web, purse, wish)
            order, depth, now = (), 0, list(purse)
            wanted = [state_by_hand(web, now, wish, order, depth)]
            self.assertEqual(wanted[0], state(striking))
            for _ in range(10):
                can = [ware for ware in striking.left() if striking.could(ware)]
                if can and chance.random() < 0.6:
                    ware = chance.choice(can)
                    striking.strike(ware)
                    order += (ware,)
                else:
                    ware, amount = chance.randrange(web.wares), some_number(chance)
                    striking.more(ware, pair(amount))
                    now[ware] = pair(Fraction(*now[ware]) + amount)
                depth += 1
                wanted.append(state_by_hand(web, now, wish, order, depth))
                self.assertEqual(wanted[-1], state(striking))
                self.assertEqual(wanted[-1], state(striking))
            self.assertEqual(wanted[::-1], all_states(striking))

    def test_copies_of_rows_are_kept(self):
        purse, wish = [ONE] * 3, [ZERO] * 3
        striking = Striking(EVEN, purse, wish)
        purse[0] = wish[1] = (9, 1)
        self.assertEqual([(3, 1)] * 3, [striking.slant(ware) for ware in range(3)])
        striking.more(2, ONE)
        self.assertEqual([(3, 1), (3, 1), (4, 1)], [striking.copy().slant(ware) for ware in range(3)])

    def test_equal_to_nothing_of_another_class(self):
        striking = Striking(EVEN, NONE, NONE)
        for other in (EVEN, None, 0, (), "", state(striking)):
            self.assertIs(False, striking == other)


class GoingBack(Case):
    def test_nothing_done(self):
        striking = Striking(EVEN, NONE, NONE)
        self.assertEqual(0, striking.depth())
        self.refused(NothingDone, {}, striking.back)
        striking.strike(1)
        self.assertIsNone(striking.back())
        self.refused(NothingDone, {}, striking.back)
        self.assertEqual(state(Striking(EVEN, NONE, NONE)), state(striking))

    def test_refused_calls_can_not_be_taken_back(self):
        striking = Striking(PAIR, [ZERO, ZERO], [ONE, ZERO])
        striking.more(1, ONE)
        before = state(striking)
        for error, call, arguments in [
            (WrongSign, striking.strike, (0,)), (BadWare, striking.strike, (2,)),
            (BadWare, striking.more, (2, ONE)), (BadAmount, striking.more, (0, (-1, 1))),
        ]:
            with self.assertRaises(error):
                call(*arguments)
            self.assertEqual(before, state(striking))
        striking.back()
        self.assertEqual(0, striking.depth())

    def test_copies_go_on_apart(self):
        striking = Striking(ODD, NONE, NONE)
        striking.strike(2)
        striking.more(0, ONE)
        twin = striking.copy()
        self.assertIs(Striking, twin.__class__)
        self.assertIsNot(twin, striking)
        before = state(striking)
        self.assertEqual(before, state(twin))
        twin.strike(0)
        twin.more(2, (3, 1))
        self.assertEqual(before, state(striking))
        after = state(twin)
        striking.back()
        striking.back()
        striking.strike(1)
        self.assertEqual(after, state(twin))
        states = all_states(twin)
        self.assertEqual(5, len(states))
        self.assertEqual(before, states[2])
        self.assertEqual(state(Striking(ODD, NONE, NONE)), states[-1])
        self.assertEqual((0, 2), striking.left())
        self.assertEqual(1, striking.depth())

    def test_copies_of_copies(self):
        first = Striking(SPLIT, [ONE] * 6, [ZERO] * 6)
        second = first.copy()
        second.strike(3)
        third = second.copy()
        third.strike(4)
        self.assertEqual([0, 1, 2], [first.depth(), second.depth(), third.depth()])
        self.assertEqual((0, 1, 2, 5), third.left())
        third.back()
        third.back()
        self.assertEqual(state(first), state(third))


class Trying(Case):
    def setUp(self):
        self.striking = Striking(ODD, (ONE, ZERO, ZERO), NONE)
        self.striking.strike(1)
        self.striking.more(2, ONE)

    def as_it_was(self, deed):
        before, back_before = state(self.striking), all_states(self.striking.copy())
        answer = self.striking.trying(deed)
        self.assertEqual(before, state(self.striking))
        self.assertEqual(back_before, all_states(self.striking.copy()))
        return answer

    def test_what_the_function_returns(self):
        self.assertIs(self.striking, self.as_it_was(lambda striking: striking))
        self.assertIsNone(self.as_it_was(lambda striking: striking.strike(0)))
        self.assertEqual([7], self.as_it_was(lambda striking: [7]))

    def test_more_and_back(self):
        def deed(striking):
            striking.strike(0)
            striking.more(1, ONE)
            striking.strike(2)
            return striking.left(), striking.depth()
        self.assertEqual(((), 5), self.as_it_was(deed))

        def back_and_on(striking):
            striking.back()
            striking.back()
            striking.strike(2)
            return striking.left(), striking.depth()
        self.assertEqual(((0, 1), 1), self.as_it_was(back_and_on))

    def test_errors_go_on(self):
        def deed(striking):
            striking.back()
            striking.strike(0)
            raise Oops("it is")
        for _ in range(2):
            before, back_before = state(self.striking), all_states(self.striking.copy())
            with self.assertRaises(Oops) as caught:
                self.striking.trying(deed)
            self.assertEqual(("it is",), caught.exception.args)
            self.assertEqual(before, state(self.striking))
            self.assertEqual(back_before, all_states(self.striking.copy()))

    def test_errors_of_its_own_go_on(self):
        def deed(striking):
            striking.strike(0)
            striking.strike(0)
        before = state(self.striking)
        self.refused(BadWare, {}, self.striking.trying, deed)
        self.assertEqual(before, state(self.striking))

        def all_back(striking):
            while True:
                striking.back()
        self.refused(NothingDone, {}, self.striking.trying, all_back)
        self.assertEqual(before, state(self.striking))

    def test_one_within_another(self):
        def inner(striking):
            striking.strike(2)
            return striking.left()

        def outer(striking):
            striking.strike(0)
            first = striking.trying(inner)
            return first, striking.left(), striking.depth()
        self.assertEqual(((), (2,), 3), self.as_it_was(outer))

    def test_copies_made_meanwhile_go_on(self):
        def deed(striking):
            striking.strike(0)
            return striking.copy()
        twin = self.as_it_was(deed)
        self.assertEqual((2,), twin.left())
        self.assertEqual(3, twin.depth())


class WrongOnes(Case):
    def test_purses_and_wishes_are_asked(self):
        for wrong in wrong_rows(3):
            self.refused(BadPurse, {}, Striking, EVEN, wrong, NONE)
            self.refused(BadPurse, {}, Striking, EVEN, wrong, wrong)
            self.refused(BadWish, {}, Striking, EVEN, NONE, wrong)

    def test_wares_are_asked(self):
        striking = Striking(EVEN, NONE, NONE)
        before = state(striking)
        for wrong in wrong_wares(3):
            for call in (striking.strike, striking.slant, striking.could):
                self.refused(BadWare, {}, call, wrong)
            self.refused(BadWare, {}, striking.root, wrong, 0)
            self.refused(BadWare, {}, striking.root, 0, wrong)
            self.refused(BadWare, {}, striking.more, wrong, ONE)
            self.refused(BadWare, {}, striking.more, wrong, None)
        for ware in range(3):
            self.refused(BadWare, {}, striking.root, ware, ware)
        self.assertEqual(before, state(striking))

    def test_wares_that_are_left_are_asked(self):
        striking = Striking(EVEN, NONE, NONE)
        striking.strike(1)
        before = state(striking)
        for call in (striking.strike, striking.slant, striking.could):
            self.refused(BadWare, {}, call, 1)
        for one, other in [(1, 0), (2, 1), (1, 1)]:
            self.refused(BadWare, {}, striking.root, one, other)
        for wrong in wrong_integers():
            self.refused(BadWare, {}, striking.strike, wrong)
        self.assertEqual(before, state(striking))

    def test_amounts_are_asked(self):
        striking = Striking(EVEN, NONE, NONE)
        striking.strike(1)
        before = state(striking)
        for wrong in wrong_amounts():
            self.refused(BadAmount, {}, striking.more, 0, wrong)
            self.refused(BadAmount, {}, striking.more, 1, wrong)
        self.assertEqual(before, state(striking))


class Pairs(unittest.TestCase):
    def test_they_are_fractions(self):
        striking = Striking(SPLIT, [ONE] * 6, [ZERO] * 6)
        for slant in [striking.slant(ware) for ware in striking.left()]:
            self.assertEqual(pairs([Fraction(*slant)])[0], slant)


if __name__ == "__main__":
    unittest.main()
