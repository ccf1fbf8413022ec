"""Numbers and amounts in texts: read word by word, and written."""

from math import gcd

from rootstalls.errors import BadText

# How many digits a number of a ware or a stall may have, and each part of an amount.
NUMBER_DIGITS = 9
AMOUNT_DIGITS = 12
NAME_LETTERS = 8


def lines_of(text):
    """The lines of a text; the empty text has none."""
    if not isinstance(text, str):
        raise BadText(-1)
    if text == "":
        return []
    return text.split("\n")


def read_digits(word, most):
    """The integer of a word of at most so many digits without a needless 0, None for another word."""
    if not 1 <= len(word) <= most or not all([sign in "0123456789" for sign in word]):
        return None
    if word[0] == "0" and word != "0":
        return None
    return int(word)


def read_amount(word):
    """The amount of a word, None if it is written another way."""
    numbers = [read_digits(part, AMOUNT_DIGITS) for part in word.split("/")]
    if None in numbers or len(numbers) > 2:
        return None
    if len(numbers) == 1:
        return (numbers[0], 1)
    top, bottom = numbers
    if bottom < 2 or gcd(top, bottom) > 1:
        return None
    return (top, bottom)


def read_some(word):
    """The amount of a word, None if it is 0 or written another way."""
    amount = read_amount(word)
    if amount is None or amount[0] == 0:
        return None
    return amount


def read_row(word):
    """The tuple of the amounts of a word with commas between, None if it is written another way."""
    amounts = [read_amount(part) for part in word.split(",")]
    if None in amounts:
        return None
    return tuple(amounts)


def read_name(word):
    """The word itself if it is a name, None otherwise."""
    if 1 <= len(word) <= NAME_LETTERS and all(["a" <= sign <= "z" for sign in word]):
        return word
    return None


def read_inner(word):
    """The text of a word that stands for a text with a stroke for each line feed, None for no sign."""
    if word == "":
        return None
    return word.replace("|", "\n")


READERS = {
    "amount": read_amount, "some": read_some, "row": read_row, "name": read_name, "text": read_inner,
}


def read_word(kind, word):
    """What a word of this kind tells, None if it is not written so."""
    if kind == "number":
        return read_digits(word, NUMBER_DIGITS)
    reader = READERS[kind]
    return reader(word)


def read_words(words, kinds):
    """The tuple of what words of these kinds tell, None if they are others."""
    if len(words) != len(kinds):
        return None
    told = tuple([read_word(kind, word) for kind, word in zip(kinds, words)])
    if None in told:
        return None
    return told


def read_lines(lines, kinds):
    """What the words of each line tell, all lines being of these kinds of words."""
    found = []
    for place, line in enumerate(lines):
        told = read_words(line.split(" "), kinds)
        if told is None:
            raise BadText(place)
        found.append(told)
    return found


def digits_of(number):
    """An integer from 0 on in digits."""
    # Python itself refuses to write integers of some thousand digits at once.
    parts = []
    while number >= 10 ** 64:
        number, low = divmod(number, 10 ** 64)
        parts.append(str(low).zfill(64))
    parts.append(str(number))
    return "".join(parts[::-1])


def written(one):
    """A fraction in digits, with a sign ahead if it is below 0."""
    sign = "-" if one[0] < 0 else ""
    top = digits_of(abs(one[0]))
    if one[1] == 1:
        return sign + top
    return f"{sign}{top}/{digits_of(one[1])}"


def written_row(fractions):
    """Fractions with commas between."""
    return ",".join([written(one) for one in fractions])
