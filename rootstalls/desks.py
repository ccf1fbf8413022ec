"""A desk that works by lines: webs under names, and what can be asked of them."""

from rootstalls.brims import brim
from rootstalls.deals import led
from rootstalls.drags import drag
from rootstalls.errors import NoLine, NoName, NothingDone
from rootstalls.nothing import fit, for_nothing
from rootstalls.orders import run
from rootstalls.texts import read_web, web_text
from rootstalls.wishes import scales
from rootstalls.words import read_words, written, written_row

# The kinds of the words behind the first one of a line.
FORMS = {
    "web": ("name", "text"), "drop": ("name",), "names": (), "show": ("name",),
    "brim": ("name", "row", "number"), "meets": ("name", "row", "row"), "fits": ("name",),
    "free": ("name", "number"), "drag": ("name", "number", "number"),
    "lead": ("name", "number", "amount"), "run": ("name", "row", "text"), "undo": (),
}


def read_line(line):
    """The first word of a line, and the tuple of what the others tell."""
    if not isinstance(line, str) or "\n" in line:
        raise NoLine()
    word = line.split(" ")[0]
    if word not in FORMS:
        raise NoLine()
    kinds = FORMS[word]
    # The last word is all that is left: a text may have blanks in it, and no other kind may.
    words = line.split(" ", len(kinds))
    told = read_words(words[1:], kinds)
    if words[0] != word or told is None:
        raise NoLine()
    return (word, told)


def yes_or_no(flag):
    """A flag in a word."""
    return "yes" if flag else "no"


def show_line(web):
    """What a show line tells of a web."""
    return web_text(web).replace("\n", "|")


def brim_line(web, purse, ware):
    """What a brim line tells of a web."""
    return written(brim(web, purse, ware))


def meets_line(web, purse, wish):
    """What a meets line tells of a web."""
    return yes_or_no(scales(web, purse, wish) is not None)


def fits_line(web):
    """What a fits line tells of a web."""
    return yes_or_no(fit(web) is not None)


def free_line(web, ware):
    """What a free line tells of a web."""
    return written(for_nothing(web, ware))


def drag_line(web, one, other):
    """What a drag line tells of a web."""
    amount = drag(web, one, other)
    if amount is None:
        return "apart"
    return written(amount)


def drop_line(web):
    """No web in the place of one, and what is told."""
    return (None, "ok")


def lead_line(web, index, amount):
    """The web behind a lead line, and what is told."""
    return (led(web, index, amount), "ok")


def run_line(web, purse, text):
    """The web behind a run line, and what is told."""
    behind, has, _ = run(web, purse, text)
    return (behind, written_row(has))


ANSWERS = {
    "show": show_line, "brim": brim_line, "meets": meets_line, "fits": fits_line, "free": free_line,
    "drag": drag_line,
}
CHANGES = {"drop": drop_line, "lead": lead_line, "run": run_line}


class Desk:
    """Webs under names; it keeps all its states, dicts that never change, from the first one on."""

    def __init__(self):
        self._states = ({},)

    def tell(self, line):
        """Does what a line asks, and tells what comes of it."""
        word, told = read_line(line)
        webs = self._states[-1]
        if word == "undo":
            return self._undo()
        if word == "names":
            return " ".join(sorted(webs)) if webs else "none"
        name, *rest = told
        if word == "web":
            self._keep(name, read_web(rest[0]))
            return "ok"
        if name not in webs:
            raise NoName(name)
        if word in ANSWERS:
            answer = ANSWERS[word]
            return answer(webs[name], *rest)
        change = CHANGES[word]
        web, text = change(webs[name], *rest)
        self._keep(name, web)
        return text

    def undoable(self):
        """How many lines can be taken back."""
        return len(self._states) - 1

    def _keep(self, name, web):
        webs = {one: kept for one, kept in self._states[-1].items() if one != name}
        if web is not None:
            webs[name] = web
        self._states = self._states + (webs,)

    def _undo(self):
        if self.undoable() == 0:
            raise NothingDone()
        self._states = self._states[:-1]
        return "ok"
