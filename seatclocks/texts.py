"""Texts: how a fraction and haps are written, and what is read."""

from seatclocks.errors import NoText
from seatclocks.fractions import is_fraction

FIGURES = "0123456789"


def number_text(number):
    """Write a whole number by its figures, with `-` ahead where it is below nought."""
    if number < 0:
        return "-" + number_text(-number)
    behind = ""
    # Python itself refuses to write some thousands of figures at once, so sixty are written at a time.
    while number >= 10 ** 60:
        number, rest = divmod(number, 10 ** 60)
        behind = str(rest).zfill(60) + behind
    return str(number) + behind


def number_read(text):
    """Read figures, perhaps with `-` ahead; NoText where there are other signs."""
    figures = text.removeprefix("-")
    number = 0
    for figure in figures:
        # Python itself would take figures of other scripts, too.
        if figure not in FIGURES:
            raise NoText("a number is written by the figures 0 to 9")
        number = number * 10 + int(figure)
    if figures == text:
        return number
    return -number


def fraction_text(one):
    """Write a fraction."""
    if one[1] == 1:
        return number_text(one[0])
    return number_text(one[0]) + "/" + number_text(one[1])


def haps_text(haps):
    """Write a list of one or more haps."""
    return " ".join([fraction_text(time) + "@" + fraction_text(place) for time, place in haps])


def check_text(thing):
    """Refuse with NoText what is no text."""
    if not isinstance(thing, str):
        raise NoText("this is no text")


def fraction_read(text):
    """Read what is written of a fraction; anything else is refused with NoText."""
    check_text(text)
    top, slash, bottom = text.partition("/")
    one = (number_read(top), 1)
    if slash == "/":
        one = (one[0], number_read(bottom))
    # What was read loosely so far, such as noughts ahead or a bottom of 1, is not written so again.
    if not is_fraction(one) or fraction_text(one) != text:
        raise NoText("this is not what is written of a fraction")
    return one


def hap_read(text):
    """Read what is written of one hap; any other text is refused with NoText."""
    # Without `@` the place is the empty text, which is what is written of no fraction.
    time, _, place = text.partition("@")
    return (fraction_read(time), fraction_read(place))


def haps_read(text):
    """Read what is written of one hap or more to a list of them; anything else is refused with NoText."""
    check_text(text)
    return [hap_read(part) for part in text.split(" ")]
