"""Points 17.1 and 17.2: the desk."""

import random
import unittest

from rootstalls.brims import brim
from rootstalls.deals import led
from rootstalls.desks import Desk
from rootstalls.drags import drag
from rootstalls.errors import (
    BadAmount, BadIndex, BadPurse, BadStall, BadText, BadWare, BadWares, BadWish, NoLine, NoName, NotFit,
    NothingDone, StallError, TooMany,
)
from rootstalls.nothing import fit, for_nothing
from rootstalls.orders import run
from rootstalls.texts import web_text
from rootstalls.wishes import deal_for
from tests.samples import (
    BARE, EVEN, LONE, ODD, SPLIT, Case, pair, random_row, some_number, webs, wrong_strings,
)
from tests.test_orders import WRONG_AMOUNTS, random_orders
from tests.test_texts import WRONG_NUMBERS

ODD_LINE = "wares 3|0 1 1 1|1 2 1 1|0 2 2 1/2"
EVEN_LINE = "wares 3|0 1 1 1|1 2 1 1|0 2 1 1"


def in_line(web):
    return web_text(web).replace("\n", "|")


def written(one):
    return str(one[0]) if one[1] == 1 else f"{one[0]}/{one[1]}"


def row_of(amounts):
    return ",".join(written(one) for one in amounts)


def desk_with(*lines):
    desk = Desk()
    for line in lines:
        desk.tell(line)
    return desk


def state(desk):
    """All that can be seen of a desk without changing it."""
    names = desk.tell("names")
    shown = [desk.tell("show " + name) for name in names.split(" ")] if names != "none" else []
    return (names, shown, desk.undoable())


class Lines(Case):
    def tells(self, wanted, desk, line):
        before = desk.undoable()
        answer = desk.tell(line)
        self.assertIs(str, answer.__class__)
        self.assertEqual(wanted, answer, line)
        self.assertEqual(before, desk.undoable(), line)

    def changes(self, wanted, desk, line):
        before = desk.undoable()
        answer = desk.tell(line)
        self.assertIs(str, answer.__class__)
        self.assertEqual(wanted, answer, line)
        self.assertEqual(before + 1, desk.undoable(), line)

    def test_webs_under_names(self):
        desk = Desk()
        self.tells("none", desk, "names")
        self.changes("ok", desk, "web odd " + ODD_LINE)
        self.tells("odd", desk, "names")
        self.tells(ODD_LINE, desk, "show odd")
        self.changes("ok", desk, "web a wares 1")
        self.changes("ok", desk, "web zzzzzzzz " + EVEN_LINE)
        self.changes("ok", desk, "web none wares 4")
        self.tells("a none odd zzzzzzzz", desk, "names")
        self.tells("wares 1", desk, "show a")
        self.tells(EVEN_LINE, desk, "show zzzzzzzz")
        self.changes("ok", desk, "drop odd")
        self.tells("a none zzzzzzzz", desk, "names")
        self.refused(NoName, {"name": "odd"}, desk.tell, "show odd")
        for name in ("a", "none", "zzzzzzzz"):
            self.changes("ok", desk, "drop " + name)
        self.tells("none", desk, "names")
        self.assertEqual(8, desk.undoable())

    def test_a_web_in_the_place_of_an_elder_one(self):
        desk = desk_with("web a " + ODD_LINE, "web b wares 1")
        self.changes("ok", desk, "web a wares 2")
        self.tells("wares 2", desk, "show a")
        self.tells("a b", desk, "names")
        self.tells("wares 1", desk, "show b")
        desk.tell("undo")
        self.tells(ODD_LINE, desk, "show a")

    def test_questions(self):
        desk = desk_with("web odd " + ODD_LINE, "web even " + EVEN_LINE, "web bare wares 4")
        self.tells("3/5", desk, "brim even 1,0,0 1")
        self.tells("1", desk, "brim even 1,0,0 0")
        self.tells("0", desk, "brim even 0,0,0 2")
        self.tells("1/7", desk, "brim odd 0,0,0 1")
        self.tells("yes", desk, "meets even 1,0,0 0,3/5,0")
        self.tells("no", desk, "meets even 1,0,0 0,2/3,0")
        self.tells("yes", desk, "meets bare 1/2,0,0,7 1/2,0,0,7")
        self.tells("yes", desk, "fits even")
        self.tells("no", desk, "fits odd")
        self.tells("yes", desk, "fits bare")
        self.tells("1/4", desk, "free odd 0")
        self.tells("1/10", desk, "free odd 2")
        self.tells("0", desk, "free even 0")
        self.tells("2/3", desk, "drag even 0 1")
        self.tells("apart", desk, "drag bare 3 1")

    def test_leading(self):
        desk = desk_with("web a " + EVEN_LINE)
        self.changes("ok", desk, "lead a 2 2")
        self.tells(ODD_LINE, desk, "show a")
        self.changes("ok", desk, "lead a 2 2")
        self.changes("ok", desk, "lead a 2 1")
        self.tells(EVEN_LINE, desk, "show a")

    def test_running(self):
        desk = desk_with("web a " + EVEN_LINE)
        self.changes("2/5,1/3,1/11", desk, "run a 1,0,0 half 0 0|put 1/10 0 2")
        self.tells("wares 3|0 1 3/2 2/3|1 2 1 1|0 2 11/10 10/11", desk, "show a")

    def test_running_tells_what_is_owed(self):
        desk = desk_with("web a " + EVEN_LINE)
        self.changes("-1,1/2,0", desk, "run a 0,0,0 put 1 0 0")
        self.changes("-1/2,3/5,-1", desk, "run a 0,0,0 put 1/2 0 0|to 1 1/2")
        self.tells("wares 3|0 1 5/2 2/5|1 2 1/2 2|0 2 1 1", desk, "show a")

    def test_running_loops_and_nothing(self):
        desk = desk_with("web a " + EVEN_LINE)
        self.changes("1,0,0", desk, "run a 1,0,0 times 0|put 1 0 0|end")
        self.changes("1,0,0", desk, "run a 1,0,0 all 1 0")
        self.changes("-2,2/3,0", desk, "run a 0,0,0 times 2|put 1 0 0|end")
        self.tells("wares 3|0 1 3 1/3|1 2 1 1|0 2 1 1", desk, "show a")

    def test_webs_without_stalls_and_of_one_ware(self):
        desk = desk_with("web a wares 1")
        self.tells("7/2", desk, "brim a 7/2 0")
        self.tells("no", desk, "meets a 1 2")
        self.tells("yes", desk, "meets a 2 2")
        self.tells("0", desk, "free a 0")
        self.refused(BadWare, {}, desk.tell, "drag a 0 0")

    def test_amounts_of_any_size_are_told(self):
        desk = desk_with("web a wares 2|0 1 1 1")
        for _ in range(3):
            desk.tell("run a 0,0 times 20|put 1/999999999989 0 0|put 1/999999999961 1 0|end")
        web = desk.tell("show a")
        self.assertTrue(len(web) > 500)
        self.assertRegex(desk.tell("brim a 999999999999/999999999998,0 1"), "^[0-9]{100,}/[0-9]{100,}$")


class Undoing(Case):
    def test_back_to_the_beginning(self):
        desk = Desk()
        self.refused(NothingDone, {}, desk.tell, "undo")
        lines = [
            "web a " + EVEN_LINE, "lead a 2 2", "web b wares 1", "run a 1,0,0 all 0 0", "drop b",
            "web a wares 2", "web b " + ODD_LINE, "lead b 2 2", "run b 0,0,0 all 0 0", "drop a", "drop b",
        ]
        states = [state(desk)]
        for line in lines:
            desk.tell(line)
            states.append(state(desk))
        self.assertEqual(len(lines), desk.undoable())
        for wanted in states[-2::-1]:
            self.assertEqual("ok", desk.tell("undo"))
            self.assertEqual(wanted, state(desk))
        self.refused(NothingDone, {}, desk.tell, "undo")
        self.assertEqual(0, desk.undoable())

    def test_questions_are_not_taken_back(self):
        desk = desk_with("web a " + EVEN_LINE)
        for line in ("names", "show a", "brim a 1,0,0 1", "meets a 1,0,0 0,0,0", "fits a", "free a 1", "drag a 0 1"):
            desk.tell(line)
            self.assertEqual(1, desk.undoable())
        desk.tell("undo")
        self.assertEqual("none", desk.tell("names"))
        # What has been undone is not done again.
        self.refused(NothingDone, {}, desk.tell, "undo")

    def test_undo_and_on(self):
        desk = desk_with("web a " + EVEN_LINE, "lead a 0 2", "undo", "lead a 0 3", "drop a", "undo")
        self.assertEqual("wares 3|0 1 3 1/3|1 2 1 1|0 2 1 1", desk.tell("show a"))
        self.assertEqual(2, desk.undoable())

    def test_two_desks_side_by_side(self):
        one, other = desk_with("web a " + EVEN_LINE), desk_with("web a wares 1", "web b wares 2")
        one.tell("lead a 2 2")
        self.assertEqual(("a b", ["wares 1", "wares 2"], 2), state(other))
        other.tell("drop a")
        self.assertEqual(("a", [ODD_LINE], 2), state(one))
        one.tell("undo")
        self.assertEqual(("b", ["wares 2"], 3), state(other))
        self.assertEqual(("a", [EVEN_LINE], 1), state(one))
        self.assertEqual(("none", [], 0), state(Desk()))
        self.assertFalse(one == other)


def wrong_lines():
    """Lines that have none of the forms."""
    lines = [
        "", " ", "\t", "names ", " names", "names a", "Names", "undo ", "undo 1", " undo", "undos", "a",
        "web", "web ", "web a", "web a ", "web  wares 1", "web aaaaaaaaa wares 1", "web A wares 1",
        "web a1 wares 1", "web a_ wares 1", "webs a wares 1", " web a wares 1", "web\ta wares 1",
        "drop", "drop ", "drop A", "drop a ", "drop a b", "drop  a", "drop aaaaaaaaa", "drop 1",
        "show", "show a b", "show a ", "show A", "fits", "fits a b", "fits 0", "fits a ",
        "brim", "brim a", "brim a 1,0,0", "brim a 1,0,0 1 1", "brim a 1,0,0 ", "brim a  1,0,0 1", "brim a 1,0,0  1",
        "brim a 1, 0,0 1", "brim a 1,0,0, 1", "brim a ,1,0,0 1", "brim a 1,,0 1", "brim a , 1", "brim A 1,0,0 1",
        "brim a 1;0;0 1", "brim a (1,0,0) 1", "meets", "meets a", "meets a 1,0,0", "meets a 1,0,0 0,0,0 0,0,0",
        "meets a 1,0,0 0,0,0 ", "meets a 1,0,0 0,0,x", "meets a -1,0,0 0,0,0", "free", "free a", "free a 0 0",
        "free a 0 ", "free 0 a", "free a x", "drag", "drag a", "drag a 0", "drag a 0 1 2", "drag a 0  1", "drag 0 1 a",
        "lead", "lead a", "lead a 0", "lead a 0 1 1", "lead a 0 1 ", "lead a 0  1", "lead A 0 1", "lead a 0 1,1",
        "run", "run a", "run a 1,0,0", "run a 1,0,0 ", "run a 1,0,x all 0 0", "run A 1,0,0 all 0 0",
        "web a wares 1\n", "\nnames", "names\n", "web a wares 2\n0 1 1 1", "run a 1,0,0 all 0 0\nall 1 1", "\n",
    ]
    for word in WRONG_NUMBERS:
        lines += [f"free a {word}", f"brim a 1,0,0 {word}", f"drag a {word} 1", f"drag a 0 {word}", f"lead a {word} 1"]
    for word in WRONG_AMOUNTS:
        if word != "0":
            lines.append(f"lead a 0 {word}")
            if word != "1,2":
                lines += [f"brim a 1,{word},0 1", f"meets a 1,0,0 0,0,{word}"]
            # Behind a blank the text of the orders begins.
            if word not in ("1,2", "1 "):
                lines.append(f"run a 1,0,{word} all 0 0")
    return lines


class Wrong(Case):
    def test_lines_of_no_form(self):
        desk = desk_with("web a " + EVEN_LINE, "lead a 2 2")
        before = state(desk)
        for line in wrong_lines() + wrong_strings():
            self.refused(NoLine, {}, desk.tell, line)
            self.refused(NoLine, {}, Desk().tell, line)
        self.assertEqual(before, state(desk))

    def test_names_of_8_letters_and_of_9(self):
        desk = desk_with("web abcdefgh wares 1", "web z wares 2")
        self.assertEqual("abcdefgh z", desk.tell("names"))
        self.refused(NoLine, {}, desk.tell, "web abcdefghi wares 1")
        self.refused(NoLine, {}, desk.tell, "show abcdefghi")
        self.refused(NoName, {"name": "abcdefgi"}, desk.tell, "show abcdefgi")

    def test_what_read_web_raises(self):
        desk = desk_with("web a " + EVEN_LINE)
        before = state(desk)
        for name in ("a", "b"):
            self.refused(BadText, {"index": 0}, desk.tell, f"web {name} ware 1")
            self.refused(BadText, {"index": 0}, desk.tell, f"web {name}  wares 1")
            self.refused(BadText, {"index": 0}, desk.tell, f"web {name}  ")
            self.refused(BadText, {"index": 0}, desk.tell, f"web {name} |wares 1")
            self.refused(BadText, {"index": 1}, desk.tell, f"web {name} wares 1|")
            self.refused(BadText, {"index": 0}, desk.tell, f"web {name} wares 1 ")
            self.refused(BadText, {"index": 2}, desk.tell, f"web {name} wares 2|0 1 1 1|0 1 1 2")
            self.refused(BadWares, {}, desk.tell, f"web {name} wares 0")
            self.refused(BadStall, {"index": 1}, desk.tell, f"web {name} wares 2|0 1 1 1|0 2 1 1")
            self.refused(BadStall, {"index": -1}, desk.tell, f"web {name} wares 2" + "|0 1 1 1" * 17)
        self.assertEqual(before, state(desk))

    def test_names_of_which_there_is_no_web(self):
        desk = desk_with("web a " + EVEN_LINE, "web b wares 1", "drop b")
        before = state(desk)
        for line in (
            "drop b", "show b", "brim b 1 9", "meets b 1,1 1", "fits b", "free b 9", "drag b 0 0",
            "lead b 9 0", "run b 1,1,1,1 wrong",
        ):
            self.refused(NoName, {"name": "b"}, desk.tell, line)
        self.assertEqual(before, state(desk))

    def test_what_the_functions_raise(self):
        desk = desk_with("web a " + EVEN_LINE, "web odd " + ODD_LINE, "web b " + in_line(BARE))
        before = state(desk)
        for error, fields, lines in (
            (BadPurse, {}, (
                "brim a 1,0 9", "brim a 1,0,0,0 0", "brim a 1 0", "meets a 1 1", "run a 1,0 wrong", "run a 1,0,0,0 all 0 0",
            )),
            (BadWare, {}, (
                "brim a 1,0,0 3", "brim a 1,0,0 999999999", "free a 3", "drag a 0 0", "drag a 3 0", "drag a 0 3",
            )),
            (BadWish, {}, ("meets a 1,0,0 1", "meets a 1,0,0 1,0,0,0")),
            (NotFit, {}, ("drag odd 0 1", "drag odd 0 0", "drag odd 7 0")),
            (BadIndex, {}, ("lead a 3 1", "lead a 3 0", "lead b 0 1")),
            (BadAmount, {}, ("lead a 0 0",)),
            (BadText, {"index": 0}, ("run a 1,0,0 wrong", "run a 1,0,0  all 0 0", "run a 1,0,0  ", "run a 1,0,0 |")),
            (BadText, {"index": 1}, ("run a 1,0,0 all 0 0|put 0 0 0", "run a 1,0,0 all 0 0|", "run a 1,0,0 times 1")),
            (TooMany, {"limit": 200}, ("run a 1,0,0 times 20|times 11|put 1 0 0|end|end",)),
        ):
            for line in lines:
                self.refused(error, fields, desk.tell, line)
        self.assertEqual(before, state(desk))


class Behind(Case):
    """The lines and the functions behind them."""

    def test_questions(self):
        chance = random.Random(280)
        for web in list(webs(280, 60, 5)) + [LONE, BARE, SPLIT, EVEN, ODD]:
            desk = desk_with("web it " + in_line(web))
            self.assertEqual(in_line(web), desk.tell("show it"))
            purse, wish = random_row(chance, web.wares), random_row(chance, web.wares)
            met = deal_for(web, purse, wish) is not None
            self.assertEqual("yes" if met else "no", desk.tell(f"meets it {row_of(purse)} {row_of(wish)}"))
            fits = fit(web) is not None
            self.assertEqual("yes" if fits else "no", desk.tell("fits it"))
            for ware in range(web.wares):
                self.assertEqual(written(brim(web, purse, ware)), desk.tell(f"brim it {row_of(purse)} {ware}"))
                self.assertEqual(written(for_nothing(web, ware)), desk.tell(f"free it {ware}"))
                self.drag_line(desk, web, ware, (ware + 1) % web.wares)
            self.assertEqual(1, desk.undoable())

    def drag_line(self, desk, web, one, other):
        try:
            amount = drag(web, one, other)
            wanted = "apart" if amount is None else written(amount)
        except StallError as error:
            self.refused(error.__class__, {}, desk.tell, f"drag it {one} {other}")
            return
        self.assertEqual(wanted, desk.tell(f"drag it {one} {other}"))

    def test_changes(self):
        chance = random.Random(281)
        for web in webs(281, 60, 4, 6):
            if not web.stalls:
                continue
            desk = desk_with("web it " + in_line(web))
            now = web
            for _ in range(3):
                purse = random_row(chance, web.wares)
                text = "\n".join(random_orders(chance, web, 1, 3))
                now, has, _ = run(now, purse, text)
                line = f"run it {row_of(purse)} " + text.replace("\n", "|")
                self.assertEqual(row_of(has), desk.tell(line))
                index, amount = chance.randrange(len(web.stalls)), pair(some_number(chance))
                now = led(now, index, amount)
                self.assertEqual("ok", desk.tell(f"lead it {index} {written(amount)}"))
                self.assertEqual(in_line(now), desk.tell("show it"))
            self.assertEqual(7, desk.undoable())


if __name__ == "__main__":
    unittest.main()
