"""Points 12.1 and 12.2: orders in words, and amounts in texts."""

import random
import unittest
from fractions import Fraction

from rootstalls.deals import led, played
from rootstalls.errors import BadPurse, BadText, TooMany
from rootstalls.orders import alike_orders, run
from rootstalls.webs import Web
from tests.samples import (
    BARE, EVEN, LONE, NONE, ODD, ONE, SPLIT, ZERO, Case, pair, some_number, webs, worths, wrong_rows,
    wrong_strings,
)

PURSE = (ONE, ZERO, ZERO)
PAIR = Web(2, [(0, 1, ONE, ONE, ONE)])

# Words that are no amount above 0.
WRONG_AMOUNTS = (
    "0", "00", "01", "007", "1/1", "2/1", "0/1", "0/5", "1/0", "1/01", "01/2", "2/4", "6/3", "10/15",
    "1/", "/2", "/", "1//2", "1/2/3", "-1", "+1", "1.5", "1e3", "one", "1_0", "", "1,2", "1/-2", "1 ",
    "1234567890123", "1/1234567890123", "1000000000000/7", "1\t",
)
RIGHT_AMOUNTS = {
    "1": (1, 1), "12": (12, 1), "1/2": (1, 2), "7/3": (7, 3), "100/99": (100, 99),
    "999999999999": (999999999999, 1), "999999999999/999999999998": (999999999999, 999999999998),
    "1/123456789012": (1, 123456789012),
}
# Lines that are none of the forms, for EVEN; behind each the word or number that is wrong.
WRONG_LINES = [
    "", " ", "\t", "put", "put 1", "put 1 0", "put 1 0 0 0", "put  1 0 0", " put 1 0 0", "put 1 0 0 ",
    "put\t1 0 0", "Put 1 0 0", "PUT 1 0 0", "puts 1 0 0", "put 0 0 0", "put 1 3 0", "put 1 0 3",
    "put 1 2 0", "put 1 0 1", "put 1 1 2", "put 1 00 0", "put 1 0 00", "put 1 -1 0", "put 1 0 -1",
    "put 1 1000000000 0", "put 1 0 1000000000", "put 1 1/2 0", "put 0 1 0/1", "put 1 x 0", "put 1 0,0",
    "all", "all 0", "all 0 0 0", "all 3 0", "all 0 3", "all 2 0", "all 0 1", "all 01 0", "all 1 00",
    "all 1 0 1", "all 1/2 0", "all  0 0", "alls 0 0", "half", "half 0", "half 2 0", "half 0 1", "half 0 0 1",
    "half 5 0", "half 0 5", "half a 0", "to", "to 0", "to 0 0", "to 3 1", "to 0 1 1", "to 00 1", "to 0 01",
    "to 1/2 1", "to 0 2/2", "to 0  1", "times", "times ", "times x", "times -1", "times 21", "times 00",
    "times 01", "times 020", "times 100", "times 1 1", "times  1", "times 1/2", "Times 1", "end", "end ",
    " end", "ends", "end 1", "lead 0 1", "put 1 0 0|put 1 0 0", "# put 1 0 0",
] + [f"put {word} 0 0" for word in WRONG_AMOUNTS] + [f"to 0 {word}" for word in WRONG_AMOUNTS]


def flat(lines):
    """The lines one behind another, each loop as often as it is done."""
    found = []
    at = 0
    while at < len(lines):
        words = lines[at].split(" ")
        if words[0] == "times":
            depth, stop = 1, at + 1
            while depth:
                depth += {"t": 1, "e": -1}.get(lines[stop][0], 0) if lines[stop][:2] != "to" else 0
                stop += 1
            found += flat(lines[at + 1:stop - 1]) * int(words[1])
            at = stop
        else:
            found.append(words)
            at += 1
    return found


def by_hand(web, purse, text):
    """What the customer has, and the moves, with Python's fractions."""
    holds = [[Fraction(*stall[2]), Fraction(*stall[3])] for stall in web.stalls]
    has = worths(purse)
    moves = []

    def move(index, ware, amount):
        side = 0 if ware == web.stalls[index][0] else 1
        beyond = web.stalls[index][1 - side]
        product = holds[index][0] * holds[index][1]
        out = holds[index][1 - side] - product / (holds[index][side] + amount)
        holds[index][side] += amount
        holds[index][1 - side] -= out
        has[ware] -= amount
        has[beyond] += out
        moves.append((index, ware, pair(amount)))

    for words in flat(text.split("\n")) if text else []:
        if words[0] == "put":
            move(int(words[3]), int(words[2]), Fraction(words[1]))
        elif words[0] == "to":
            index, amount = int(words[1]), Fraction(words[2])
            now, beyond = holds[index]
            if amount > now:
                move(index, web.stalls[index][0], amount - now)
            elif amount < now:
                move(index, web.stalls[index][1], now * beyond / amount - beyond)
        else:
            ware, index = int(words[1]), int(words[2])
            part = has[ware] / (1 if words[0] == "all" else 2)
            if part > 0:
                move(index, ware, part)
    return [pair(one) for one in has], moves


def random_orders(chance, web, lines, within=0):
    """Lines of orders, with loops."""
    found = []
    for _ in range(lines):
        index = chance.randrange(len(web.stalls))
        ware = chance.choice(web.stalls[index][:2])
        amount = str(some_number(chance))
        kind = chance.choice(["put", "all", "half", "to", "times" if within < 3 else "put"])
        if kind == "put":
            found.append(f"put {amount} {ware} {index}")
        elif kind == "to":
            found.append(f"to {index} {amount}")
        elif kind == "times":
            inner = random_orders(chance, web, chance.randint(0, 2), within + 1)
            found += [f"times {chance.randint(0, 3)}"] + inner + ["end"]
        else:
            found.append(f"{kind} {ware} {index}")
    return found


class Orders(Case):
    def runs(self, web, purse, text, has, deal):
        """The orders leave the customer with this, by this deal."""
        behind = played(web, purse, deal)
        self.assertEqual(tuple(has), behind[1])
        self.told((behind[0], tuple(has), deal), run, web, purse, text)

    def test_each_form(self):
        self.runs(EVEN, PURSE, "put 1 0 0", (ZERO, (1, 2), ZERO), [(0, 0, ONE)])
        self.runs(EVEN, PURSE, "put 2 2 1", (ONE, (2, 3), (-2, 1)), [(1, 2, (2, 1))])
        self.runs(EVEN, PURSE, "all 0 2", (ZERO, ZERO, (1, 2)), [(2, 0, ONE)])
        self.runs(EVEN, PURSE, "half 0 2", ((1, 2), ZERO, (1, 3)), [(2, 0, (1, 2))])
        self.runs(EVEN, PURSE, "to 1 3", (ONE, (-2, 1), (2, 3)), [(1, 1, (2, 1))])
        self.runs(EVEN, PURSE, "to 1 1/3", (ONE, (2, 3), (-2, 1)), [(1, 2, (2, 1))])
        self.runs(
            EVEN, list(PURSE), "half 0 0\nput 1/10 0 2", ((2, 5), (1, 3), (1, 11)),
            [(0, 0, (1, 2)), (2, 0, (1, 10))],
        )

    def test_nothing_to_move(self):
        self.runs(EVEN, PURSE, "all 1 0\nhalf 2 1\nto 0 1", PURSE, [])
        # What is owed is not put in.
        self.runs(EVEN, NONE, "put 1 0 0\nall 0 0\nhalf 0 2", ((-1, 1), (1, 2), ZERO), [(0, 0, ONE)])
        self.runs(ODD, PURSE, "to 2 2", PURSE, [])
        self.runs(EVEN, PURSE, "all 0 0\nall 0 0", (ZERO, (1, 2), ZERO), [(0, 0, ONE)])

    def test_the_empty_text_has_no_line(self):
        for web in (EVEN, LONE, BARE):
            purse = [(7, 2)] * web.wares
            self.runs(web, purse, "", purse, [])
        self.refused(BadText, {"index": 0}, run, EVEN, PURSE, "\n")
        self.refused(BadText, {"index": 1}, run, EVEN, PURSE, "to 0 2\n")
        self.refused(BadText, {"index": 0}, run, EVEN, PURSE, "\nto 0 2")

    def test_loops(self):
        move = (0, 0, ONE)
        self.runs(EVEN, PURSE, "times 0\nput 1 0 0\nend", PURSE, [])
        self.runs(EVEN, PURSE, "times 1\nput 1 0 0\nend", (ZERO, (1, 2), ZERO), [move])
        self.runs(EVEN, PURSE, "times 20\nput 1 0 0\nend", ((-19, 1), (20, 21), ZERO), [move] * 20)
        self.runs(EVEN, PURSE, "times 3\nend", PURSE, [])
        self.runs(
            EVEN, PURSE, "times 2\nput 1 0 0\ntimes 2\nto 1 2\nto 1 1\nend\nend\nput 1 0 0", ((-2, 1), (3, 4), ZERO),
            [move] + [(1, 1, ONE), (1, 2, (1, 2))] * 2 + [move] + [(1, 1, ONE), (1, 2, (1, 2))] * 2 + [move],
        )
        self.runs(
            EVEN, PURSE, "times 2\nhalf 0 0\nend", ((1, 4), (3, 7), ZERO), [(0, 0, (1, 2)), (0, 0, (1, 4))],
        )
        # A loop in which there is nothing to move at first, but later.
        self.runs(
            EVEN, PURSE, "times 2\nall 1 1\nall 0 0\nend", (ZERO, ZERO, (1, 3)), [(0, 0, ONE), (1, 1, (1, 2))],
        )

    def test_loops_within_one_another(self):
        four = "times 2\n" * 4 + "put 1 0 0" + "\nend" * 4
        self.runs(EVEN, NONE, four, ((-16, 1), (16, 17), ZERO), [(0, 0, ONE)] * 16)
        self.runs(EVEN, NONE, "times 1\nend\n" * 6 + "times 1\nend", NONE, [])
        self.runs(EVEN, NONE, "times 1\ntimes 1\nend\ntimes 1\ntimes 1\ntimes 1" + "\nend" * 4, NONE, [])
        for times in ("times 2\n", "times 0\n"):
            five = times * 5 + "put 1 0 0" + "\nend" * 5
            self.refused(BadText, {"index": 4}, run, EVEN, NONE, five)
        self.refused(BadText, {"index": 6}, run, EVEN, NONE, "times 1\n" * 4 + "end\ntimes 1\ntimes 1" + "\nend" * 5)

    def test_200_moves_and_201(self):
        text = "times 20\ntimes 5\nto 0 2\nto 0 1\nend\nend"
        self.assertEqual(200, len(run(EVEN, NONE, text)[2]))
        self.runs(EVEN, NONE, text, NONE, [(0, 0, ONE), (0, 1, (1, 2))] * 100)
        self.runs(EVEN, NONE, text + "\nto 0 1\nall 1 0", NONE, [(0, 0, ONE), (0, 1, (1, 2))] * 100)
        self.refused(TooMany, {"limit": 200}, run, EVEN, NONE, text + "\nto 0 2")
        self.refused(TooMany, {"limit": 200}, run, EVEN, NONE, "put 1 1 1\n" + text)
        self.refused(TooMany, {"limit": 200}, run, EVEN, NONE, "\n".join(["put 1 0 0"] * 201))
        self.refused(TooMany, {"limit": 200}, run, EVEN, NONE, "times 20\n" * 4 + "put 1 0 0" + "\nend" * 4)
        # The text is asked ahead of that.
        self.refused(BadText, {"index": 6}, run, EVEN, NONE, text + "\nto 0 0\nto 0 2")
        self.refused(BadText, {"index": 7}, run, EVEN, NONE, text + "\nto 0 2\nend")

    def test_loops_with_nothing_to_move_end_soon(self):
        text = "times 20\n" * 4 + "all 1 0\n" * 50 + "\n".join(["end"] * 4)
        self.runs(EVEN, PURSE, text, PURSE, [])
        self.runs(EVEN, PURSE, "times 20\n" * 4 + "\n".join(["end"] * 4), PURSE, [])

    def test_amounts(self):
        for word, amount in RIGHT_AMOUNTS.items():
            self.assertEqual([(0, 0, amount)], run(EVEN, NONE, f"put {word} 0 0")[2])
            self.assertEqual(led(EVEN, 0, amount), run(EVEN, NONE, f"to 0 {word}")[0])

    def test_wrong_lines(self):
        good = "put 1 0 0"
        for line in WRONG_LINES:
            if line:
                self.refused(BadText, {"index": 0}, run, EVEN, PURSE, line)
            self.refused(BadText, {"index": 1}, run, EVEN, PURSE, good + "\n" + line)
            self.refused(BadText, {"index": 2}, run, EVEN, PURSE, f"{good}\nall 0 0\n{line}\n{line}\nwrong")
            if not line.startswith("end"):
                self.refused(BadText, {"index": 1}, run, EVEN, PURSE, f"times 0\n{line}\nend")

    def test_an_end_too_many_and_one_lacking(self):
        self.refused(BadText, {"index": 2}, run, EVEN, PURSE, "times 1\nend\nend")
        self.refused(BadText, {"index": 1}, run, EVEN, PURSE, "times 1")
        self.refused(BadText, {"index": 3}, run, EVEN, PURSE, "times 1\nput 1 0 0\nall 0 0")
        self.refused(BadText, {"index": 3}, run, EVEN, PURSE, "times 1\ntimes 1\nend")
        self.refused(BadText, {"index": 3}, run, EVEN, PURSE, "times 1\ntimes 1\nend\n")
        # A wrong line goes ahead of the end that is lacking.
        self.refused(BadText, {"index": 1}, run, EVEN, PURSE, "times 1\nwrong")
        self.refused(BadText, {"index": 2}, run, EVEN, PURSE, "times 1\ntimes 1\ntimes 21")

    def test_wares_and_stalls_of_this_web(self):
        self.refused(BadText, {"index": 0}, run, LONE, [ONE], "all 0 0")
        self.refused(BadText, {"index": 0}, run, BARE, [ONE] * 4, "to 0 1")
        self.assertEqual([(3, 2, ONE)], run(SPLIT, [ZERO] * 6, "put 1 2 3")[2])
        self.refused(BadText, {"index": 0}, run, SPLIT, [ZERO] * 6, "put 1 3 3")
        self.refused(BadText, {"index": 0}, run, SPLIT, [ZERO] * 6, "put 1 0 0")

    def test_purses_and_strings_are_asked(self):
        for wrong in wrong_rows(3):
            self.refused(BadPurse, {}, run, EVEN, wrong, "put 1 0 0")
            self.refused(BadPurse, {}, run, EVEN, wrong, "wrong")
            self.refused(BadPurse, {}, run, EVEN, wrong, None)
            self.refused(BadPurse, {}, alike_orders, EVEN, wrong, None, None)
        for wrong in wrong_strings():
            self.refused(BadText, {"index": -1}, run, EVEN, PURSE, wrong)
            self.refused(BadText, {"index": -1}, alike_orders, EVEN, PURSE, wrong, "wrong")
            self.refused(BadText, {"index": -1}, alike_orders, EVEN, PURSE, "all 0 0", wrong)

    def test_orders_by_hand(self):
        chance = random.Random(220)
        moves = 0
        for web in webs(220, 120, 4, 6):
            if web.stalls:
                purse = [pair(some_number(chance)) for _ in range(web.wares)]
                text = "\n".join(random_orders(chance, web, chance.randint(0, 4)))
                has, deal = by_hand(web, purse, text)
                if len(deal) <= 40:
                    moves += len(deal)
                    self.runs(web, purse, text, has, deal)
        self.assertTrue(moves > 100)


class Alike(Case):
    def test_by_hand(self):
        self.told(True, alike_orders, EVEN, PURSE, "", "")
        self.told(True, alike_orders, EVEN, PURSE, "all 0 0", "put 1 0 0")
        self.told(True, alike_orders, EVEN, PURSE, "all 0 0", "times 2\nput 1/2 0 0\nend")
        self.told(True, alike_orders, EVEN, PURSE, "to 0 2\nto 1 2", "to 1 2\nto 0 2")
        self.told(True, alike_orders, EVEN, PURSE, "to 0 2\nto 0 1", "")
        self.told(False, alike_orders, EVEN, PURSE, "all 0 0", "half 0 0")
        self.told(False, alike_orders, EVEN, PURSE, "all 0 0", "")
        # The same web is not enough, nor is it to have the same.
        self.told(False, alike_orders, SPLIT, [ONE] * 6, "put 1 1 0", "put 1 1 1")
        self.told(False, alike_orders, SPLIT, [ONE] * 6, "put 1 1 0", "put 2 1 0")
        self.told(True, alike_orders, SPLIT, [ONE] * 6, "put 1 1 0\nput 1 1 1", "times 1\nput 1 1 1\nput 1 1 0\nend")

    def test_what_run_tells(self):
        chance = random.Random(221)
        answers = []
        for web in webs(221, 80, 3, 3):
            if web.stalls:
                purse = [ONE] * web.wares
                one, other = ["\n".join(random_orders(chance, web, 1, 3)) for _ in range(2)]
                wanted = run(web, purse, one)[:2] == run(web, purse, other)[:2]
                answers.append(wanted)
                self.told(wanted, alike_orders, web, purse, one, other)
                self.told(True, alike_orders, web, purse, one, one)
        self.assertEqual({True, False}, set(answers))

    def test_what_run_raises(self):
        much = "\n".join(["put 1 0 0"] * 201)
        self.refused(BadText, {"index": 0}, alike_orders, EVEN, PURSE, "wrong", "all 0 0\nwrong")
        self.refused(BadText, {"index": 1}, alike_orders, EVEN, PURSE, "all 0 0\nwrong", "wrong")
        self.refused(BadText, {"index": 1}, alike_orders, EVEN, PURSE, "", "all 0 0\nwrong")
        self.refused(TooMany, {"limit": 200}, alike_orders, EVEN, PURSE, much, "wrong")
        self.refused(TooMany, {"limit": 200}, alike_orders, EVEN, PURSE, much, None)
        self.refused(TooMany, {"limit": 200}, alike_orders, EVEN, PURSE, "", much)
        self.refused(BadText, {"index": 2}, alike_orders, EVEN, PURSE, "times 0\nend\nend", much)


if __name__ == "__main__":
    unittest.main()
