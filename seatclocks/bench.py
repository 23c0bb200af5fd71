"""The bench: haps by names, and a seat that turns and is pushed; each deed can be undone."""

from seatclocks.errors import NoDeed, NoName, TooMany
from seatclocks.fractions import NOUGHT
from seatclocks.orders import kind_of, standing
from seatclocks.seats import check_hap, told_from
from seatclocks.speeds import check_plain, together

LETTERS = "abcdefghijklmnopqrstuvwxyz"
LONGEST_NAME = 8
MOST_NAMES = 12


def is_name(thing):
    """Tell of anything whether it is a name."""
    if not isinstance(thing, str) or not 1 <= len(thing) <= LONGEST_NAME:
        return False
    return all([letter in LETTERS for letter in thing])


class Bench:
    """Haps by names, at most twelve, and the speed of a seat that is at place 0 at time 0."""

    def __init__(self):
        self._haps = {}
        self._speed = NOUGHT
        self._past = []

    def put(self, name, hap):
        """Put a hap by a name, in the stead of one that is there."""
        if not is_name(name):
            raise NoName("a name is one to eight small letters")
        check_hap(hap)
        if name not in self._haps and len(self._haps) >= MOST_NAMES:
            raise TooMany("there are twelve names already")
        haps = self._haps.copy()
        haps[name] = hap
        self._do(haps, self._speed)

    def drop(self, name):
        """Drop a name with its hap."""
        self._hap_of(name)
        haps = self._haps.copy()
        del haps[name]
        self._do(haps, self._speed)

    def turn(self, speed):
        """Let the seat move with a plain speed."""
        check_plain(speed)
        self._do(self._haps, speed)

    def push(self, speed):
        """Let the seat move with its speed and a plain speed put together."""
        check_plain(speed)
        self._do(self._haps, together(self._speed, speed))

    def undo(self):
        """Undo the last deed that is not undone yet."""
        if self._past == []:
            raise NoDeed("no deed is left to undo")
        self._haps, self._speed = self._past.pop()

    def names(self):
        """Give the names, rising."""
        return sorted(self._haps)

    def speed(self):
        """Give the speed of the seat."""
        return self._speed

    def tell(self, name):
        """Give the time and the place of a hap from the seat."""
        return told_from((self._speed, (NOUGHT, NOUGHT)), self._hap_of(name))

    def order(self):
        """Give the names as they stand by times from the seat, those together that are at one time."""
        names = self.names()
        haps = [self._haps[name] for name in names]
        return [[names[at] for at in numbers] for numbers in standing(haps, self._speed)]

    def kind(self, one, other):
        """Tell what the other name's hap is to the one's."""
        return kind_of(self._hap_of(one), self._hap_of(other))

    def _hap_of(self, name):
        """Give the hap by a name; NoName of anything that is no name that is there."""
        # What cannot be a key, as a list, cannot be looked for either.
        if not is_name(name) or name not in self._haps:
            raise NoName("this is no name that is there")
        return self._haps[name]

    def _do(self, haps, speed):
        """Have these haps and this speed from now on, and keep what was for undoing."""
        # The haps that are kept are never changed: each deed that changes them makes a dict of its own.
        self._past.append((self._haps, self._speed))
        self._haps = haps
        self._speed = speed
