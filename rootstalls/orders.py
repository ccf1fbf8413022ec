"""Orders in words: lines that tell what is put into which stall, and how often."""

from rootstalls.deals import (
    MOST_MOVES, check_purse, is_index, move_to, stall_behind, taken_out,
)
from rootstalls.errors import BadText, TooMany
from rootstalls.reckoning import added, lessened, multiplied
from rootstalls.webs import Web, across
from rootstalls.words import lines_of, read_digits, read_words

MOST_TIMES = 20
MOST_WITHIN = 4

# The kinds of the words behind the first one, and which part of what the customer has is put in.
FORMS = {
    "put": ("some", "number", "number"), "all": ("number", "number"),
    "half": ("number", "number"), "to": ("number", "some"),
}
PARTS = {"all": (1, 1), "half": (1, 2)}


class Errand:
    """A customer under way: what the stalls hold, what the customer has, and the moves so far."""

    def __init__(self, web, purse):
        self.stock = list(web.stalls)
        self.purse = list(purse)
        self.moves = []

    def make(self, move):
        """Makes a move."""
        if len(self.moves) == MOST_MOVES:
            raise TooMany(MOST_MOVES)
        index, ware, amount = move
        before = self.stock[index]
        behind = stall_behind(before, ware, amount)
        beyond = across(before, ware)
        self.stock[index] = behind
        self.purse[ware] = lessened(self.purse[ware], amount)
        self.purse[beyond] = added(self.purse[beyond], taken_out(before, behind, ware))
        self.moves.append(move)

    def move_by(self, order):
        """The move that an order comes to, None if there is nothing to move."""
        word, index, ware, amount = order
        stall = self.stock[index]
        if word == "put":
            return (index, ware, amount)
        if word == "to":
            return None if stall[2] == amount else move_to(index, stall, amount)
        part = multiplied(self.purse[ware], amount)
        return (index, ware, part) if part[0] > 0 else None

    def follow(self, orders):
        """Follows orders and loops of them, one behind another."""
        for order in orders:
            if order[0] == "times":
                self.repeat(order[1], order[2])
            else:
                move = self.move_by(order)
                if move is not None:
                    self.make(move)

    def repeat(self, times, orders):
        """Follows the orders of a loop so many times."""
        for _ in range(times):
            before = len(self.moves)
            self.follow(orders)
            # What has moved nothing leaves all as it was, and so it would each further time.
            if len(self.moves) == before:
                return


def read_order(web, line):
    """The order of a line, as its word, stall, ware and amount; None if it is none of this web."""
    words = line.split(" ")
    word = words[0]
    if word not in FORMS:
        return None
    told = read_words(words[1:], FORMS[word])
    if told is None:
        return None
    if word == "put":
        amount, ware, index = told
    elif word == "to":
        index, amount = told
        ware = None
    else:
        ware, index = told
        amount = PARTS[word]
    if not is_index(web, index):
        return None
    if ware is not None and ware not in web.stalls[index][:2]:
        return None
    return (word, index, ware, amount)


def read_times(line):
    """How often the loop is done that a line opens, None if it opens none."""
    words = line.split(" ")
    if len(words) != 2 or words[0] != "times":
        return None
    number = read_digits(words[1], len(str(MOST_TIMES)))
    if number is None or number > MOST_TIMES:
        return None
    return number


def read_orders(web, text):
    """The list of the orders of a text; a loop is the word times, the number and the list of its orders."""
    lines = lines_of(text)
    numbers = []
    # The orders read so far, of all lines, and of the loops that are open, the inmost one last.
    blocks = [[]]
    for place, line in enumerate(lines):
        number = read_times(line)
        if line == "end" and numbers:
            orders = blocks.pop()
            blocks[-1].append(("times", numbers.pop(), orders))
        elif number is not None and len(numbers) < MOST_WITHIN:
            numbers.append(number)
            blocks.append([])
        else:
            order = read_order(web, line)
            if order is None:
                raise BadText(place)
            blocks[-1].append(order)
    if numbers:
        raise BadText(len(lines))
    return blocks[0]


def run(web, purse, text):
    """The web behind orders, what the customer has then, and the moves that were made."""
    check_purse(web, purse)
    orders = read_orders(web, text)
    errand = Errand(web, purse)
    errand.follow(orders)
    return (Web(web.wares, errand.stock), tuple(errand.purse), errand.moves)


def alike_orders(web, purse, one, other):
    """Whether two texts of orders lead to the same web and leave the customer with the same."""
    behind = run(web, purse, one)[0]
    other_behind = run(web, purse, other)[0]
    # What customer and stalls have together stays: the same web leaves the customer with the same.
    return behind == other_behind
