"""Webs, deals and slips as texts, and read back from them."""

from rootstalls.errors import BadText
from rootstalls.reckoning import multiplied, square_root
from rootstalls.slips import check_slips
from rootstalls.webs import Web
from rootstalls.words import lines_of, read_lines, read_words, written


def web_text(web):
    """A line with the number of the wares, and a line for each stall."""
    lines = [f"wares {web.wares}"]
    for one, other, kept, other_kept, _ in web.stalls:
        lines.append(f"{one} {other} {written(kept)} {written(other_kept)}")
    return "\n".join(lines)


def read_wares(line):
    """The number of the wares that a line tells, None if it is written another way."""
    words = line.split(" ")
    if words[0] != "wares":
        return None
    told = read_words(words[1:], ("number",))
    if told is None:
        return None
    return told[0]


def read_stall(line):
    """The wares of a stall, what it holds and its root, None if a line does not tell them."""
    told = read_words(line.split(" "), ("number", "number", "some", "some"))
    if told is None:
        return None
    one, other, kept, other_kept = told
    root = square_root(multiplied(kept, other_kept))
    if root is None:
        return None
    return (one, other, kept, other_kept, root)


def read_web(text):
    """The web of a text."""
    lines = lines_of(text)
    wares = read_wares(lines[0]) if lines else None
    if wares is None:
        raise BadText(0)
    stalls = [read_stall(line) for line in lines[1:]]
    if None in stalls:
        raise BadText(1 + stalls.index(None))
    return Web(wares, stalls)


def deal_text(deal):
    """A line for each move."""
    return "\n".join([f"{index} {ware} {written(amount)}" for index, ware, amount in deal])


def read_deal(text):
    """The list of the moves of a text."""
    return read_lines(lines_of(text), ("number", "number", "some"))


def slips_text(web, slips):
    """A line for each slip."""
    check_slips(web, slips)
    return "\n".join([
        f"{ware} {written(amount)} {other} {written(least)}" for ware, amount, other, least in slips
    ])


def read_slips(web, text):
    """The list of the slips of a text."""
    slips = read_lines(lines_of(text), ("number", "amount", "number", "amount"))
    check_slips(web, slips)
    return slips
