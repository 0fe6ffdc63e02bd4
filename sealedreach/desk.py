"""A desk: machines by names, told rows of words and answering with texts."""

from sealedreach.compartments import is_name
from sealedreach.errors import NoAddress, NoLine, NoName, TooMany
from sealedreach.machine import Machine
from sealedreach.reach import reach
from sealedreach.texts import read, shown_word
from sealedreach.whole import short_whole_in

MOST_MACHINES = 10
MOST_FIGURES = 9
BOXES = 8

# Behind each row's word: what its parts are, in order.
FORMS = {
    "machine": ("name", "number", "word", "text"), "drop": ("name",), "names": (),
    "run": ("name", "number"), "box": ("name", "number"), "cell": ("name", "number"),
    "row": ("name",), "touches": ("name",), "begin": ("name",), "sweep": ("name", "number"),
    "rooms": ("name",), "reach": ("name",),
}


class Desk:
    """Machines by names, ten at most."""

    def __init__(self):
        self._machines = {}

    def say(self, row):
        """Tell the answer to a row of words."""
        word, parts = _parts_of(row)
        if word == "names":
            return _listed(sorted(list(self._machines)))
        if word == "machine":
            return self._make(parts)
        name, *numbers = parts
        if name not in self._machines:
            raise NoName(name)
        if word == "drop":
            del self._machines[name]
            return "ok"
        return _answer(word, self._machines[name], numbers)

    def _make(self, parts):
        name, stack, begin, text = parts
        machine = Machine(read(text.replace("; ", "\n")), begin, stack=stack)
        if name not in self._machines and len(self._machines) == MOST_MACHINES:
            raise TooMany(MOST_MACHINES + 1)
        self._machines[name] = machine
        return "ok"


def _parts_of(row):
    """Tell the word that a row begins with, and its parts, N as numbers."""
    if not isinstance(row, str) or "\n" in row:
        raise NoLine("a row is a text without line feeds")
    # The last part of `machine` holds blanks itself.
    word, *texts = row.split(" ", 4) if row.startswith("machine ") else row.split(" ")
    if word not in FORMS or len(texts) != len(FORMS[word]):
        raise NoLine("a row is one of the desk's words, with as many behind it as it takes")
    parts = [_part_in(text, what) for text, what in zip(texts, FORMS[word])]
    if None in parts:
        raise NoLine("names are small letters, numbers at most nine figures, words not empty")
    return word, parts


def _part_in(text, what):
    """Tell the part that a word of a row writes, None where it writes none."""
    if what == "number":
        return short_whole_in(text, MOST_FIGURES)
    if what == "text":
        return text
    if what == "word":
        return text if text else None
    return text if is_name(text) else None


def _answer(word, machine, numbers):
    """Tell the answer to a row about one machine that is kept."""
    answer = ANSWERS[word]
    return answer(machine, *numbers)


def _run(machine, most):
    came = machine.run(most)
    if came is None:
        return "goes"
    what, told = came
    return "end " + shown_word(told) if what == "end" else "fault " + told


def _box(machine, number):
    if number >= BOXES:
        raise NoAddress("boxes have the numbers 0 to 7")
    return shown_word(machine.boxes()[number])


def _cell(machine, address):
    return shown_word(machine.cell(address))


def _row(machine):
    return shown_word(machine.row_word())


def _touches(machine):
    return _listed([f"{name}.{what}.{address}" for name, what, address in machine.touches()])


def _begin(machine):
    machine.begin_sweep()
    return "ok"


def _sweep(machine, many):
    return "done" if machine.sweep(many) else "goes"


def _rooms(machine):
    return _listed([f"{low}-{high}" for low, high in machine.standing()])


def _reach(machine):
    return _listed([shown_word(word) for word in reach(machine, gates=True)])


def _listed(words):
    return " ".join(words) if words else "-"


ANSWERS = {
    "run": _run, "box": _box, "cell": _cell, "row": _row, "touches": _touches, "begin": _begin,
    "sweep": _sweep, "rooms": _rooms, "reach": _reach,
}
