"""The refusals: each class stands straight under MotionError, none under another one."""


class MotionError(ValueError):
    """Any refusal of the program."""


class NoFraction(MotionError):
    """No fraction where one is wanted, or a fraction by nought."""


class NoHap(MotionError):
    """No hap, or no told hap, where one is wanted."""


class NoText(MotionError):
    """What is no written fraction, or no written haps."""


class NoSpeed(MotionError):
    """No speed, or not such a speed as is wanted."""


class TooMany(MotionError):
    """More than the program counts or keeps."""


class NotPlain(MotionError):
    """A speed that is not plain."""


class NoStretch(MotionError):
    """No fraction above nought where a stretch is wanted."""


class NoHaps(MotionError):
    """No such list of haps as is wanted."""


class NoOrder(MotionError):
    """No order of all haps of a list."""


class NoStep(MotionError):
    """No step from the one hap to the other one."""


class NoNumber(MotionError):
    """No such numbers of haps as are wanted."""


class NoSeat(MotionError):
    """No seat where one is wanted."""


class NoRod(MotionError):
    """No rod, or no gate, where one is wanted."""


class NoWay(MotionError):
    """No such way as is wanted."""


class NoFlash(MotionError):
    """No flash that is sent and comes so."""


class NoName(MotionError):
    """No name, or no name that is there."""


class NoDeed(MotionError):
    """No deed is left to undo."""


class NoRow(MotionError):
    """No row that a desk takes."""
