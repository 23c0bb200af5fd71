"""The desk: a bench that is told rows of words, and answers by texts."""

from seatclocks.bench import Bench, is_name
from seatclocks.errors import NoRow, NoText
from seatclocks.texts import fraction_read, fraction_text, hap_read, haps_text

# What stands behind the first word of each row.
FORMS = {
    "put": ("NAME", "HAP"), "drop": ("NAME",), "turn": ("V",), "push": ("V",), "undo": (),
    "names": (), "speed": (), "tell": ("NAME",), "order": (), "kind": ("NAME", "NAME"),
}


def name_read(word):
    """Read a name; NoRow of another word."""
    if not is_name(word):
        raise NoRow("a name is one to eight small letters")
    return word


def word_read(form, word):
    """Read a NAME, a HAP or a V; NoRow of another word."""
    if form == "NAME":
        return name_read(word)
    try:
        if form == "HAP":
            return hap_read(word)
        return fraction_read(word)
    except NoText:
        raise NoRow("a word of the row is not written so") from None


def row_read(row):
    """Read a row to its first word and a list of what the others tell; NoRow of anything else."""
    if not isinstance(row, str):
        raise NoRow("a row is a text")
    words = row.split(" ")
    forms = FORMS.get(words[0])
    if forms is None or len(words) != 1 + len(forms):
        raise NoRow("there is no such row")
    return (words[0], [word_read(form, word) for form, word in zip(forms, words[1:])])


def listed(names):
    """Write words with a blank between each two, or `none`."""
    if names == []:
        return "none"
    return " ".join(names)


class Desk:
    """A bench that is told rows."""

    def __init__(self):
        self._bench = Bench()

    def say(self, row):
        """Do or answer what a row says; NoRow of anything that is no row."""
        word, told = row_read(row)
        if word in ("put", "drop", "turn", "push", "undo"):
            self._do(word, told)
            return "ok"
        return self._answer(word, told)

    def _do(self, word, told):
        """Do the deed of a word."""
        if word == "put":
            self._bench.put(told[0], told[1])
        elif word == "drop":
            self._bench.drop(told[0])
        elif word == "turn":
            self._bench.turn(told[0])
        elif word == "push":
            self._bench.push(told[0])
        else:
            self._bench.undo()

    def _answer(self, word, told):
        """Answer the question of a word."""
        if word == "names":
            return listed(self._bench.names())
        if word == "speed":
            return fraction_text(self._bench.speed())
        if word == "tell":
            return haps_text([self._bench.tell(told[0])])
        if word == "order":
            return listed(["=".join(names) for names in self._bench.order()])
        return self._bench.kind(told[0], told[1])
