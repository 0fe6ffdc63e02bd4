"""What the document says, worked out plainly, and things of odd kinds to hand in."""

CELLS = 4096


class Odd:
    """A thing that can't be compared, nor asked for a truth."""

    def __eq__(self, other):
        raise AssertionError("compared")

    def __bool__(self):
        raise AssertionError("asked for a truth")

    __hash__ = None


class Counted(int):
    """An int of a class of its own is an int all the same."""


def odd_things():
    """Things of many kinds, none of them a whole number, a text, a tuple of two or of five."""
    return [None, True, False, 1.5, b"", b"rw", [], {}, set(), (), (1,), (1, 2, 3), ((),),
            [0, 1], [0, 4096], {"low": 0}, {0, 1}, object(), Odd(), int, len, Exception()]


def tellable():
    """All bounds that some bits tell, each with the list of its (step, first, count)."""
    told = {}
    for step in range(9):
        for count in range(1, 17):
            for first in range(4096 // 2 ** step):
                if tells(step, first, count):
                    bounds = (first * 2 ** step, first * 2 ** step + count * 2 ** step)
                    told.setdefault(bounds, []).append((step, first, count))
    return told


def tells(step, first, count):
    if not 0 <= step <= 8:
        return False
    if not (step == 0 or count >= 9):
        return False
    return (first + count) * 2 ** step <= 4096


def bits_with(at=0, first=0, count=1, step=0, rights="", kind=0):
    """The bits with these fields, the lowest field first."""
    number = sum(2 ** "rwlsnfxco".index(sign) for sign in rights)
    fields = ((at, 12), (first, 12), (count - 1, 4), (step, 4), (number, 9), (kind, 4))
    bits = 0
    for worth, many in reversed(fields):
        assert 0 <= worth < 2 ** many
        bits = bits * 2 ** many + worth
    return bits


def all_rights():
    """All 512 texts of rights, from none to all."""
    texts = [""]
    for sign in "rwlsnfxco":
        texts = texts + [text + sign for text in texts]
    return texts


def go_together(rights):
    """Whether a marked word may have these rights."""
    cells = any(sign in rights for sign in "rwlsn")
    kinds = "c" in rights or "o" in rights
    if "x" in rights:
        return not cells and not kinds
    return not (kinds and cells)


def word(low=0, high=1, at=None, rights="", kind=0, marked=True):
    """The word with these fields, at its low if no at is told."""
    for step in range(9):
        first, count = low // 2 ** step, (high - low) // 2 ** step
        if (first * 2 ** step, (first + count) * 2 ** step) == (low, high) and count <= 16:
            if tells(step, first, count):
                at = low if at is None else at
                return marked, bits_with(at, first, count, step, rights, kind)
    raise AssertionError("no bits tell these bounds")


def lawful_rights():
    """All texts of rights that a marked word may have."""
    return [rights for rights in all_rights() if go_together(rights)]


def any_word(chance, marked=None):
    """A word by chance: any bits without the mark, or all kinds of bounds, rights and kinds with it."""
    if marked is None:
        marked = chance.random() < 0.8
    if not marked:
        return False, chance.randrange(2 ** 45)
    step = chance.choice((0, 0, 0, 1, 2, 5, 8))
    count = chance.randint(9 if step else 1, 16)
    first = chance.randint(0, 4096 // 2 ** step - count)
    if step == 0 and chance.random() < 0.5:
        first = chance.randint(0, 8)
    low, high = first * 2 ** step, (first + count) * 2 ** step
    at = chance.choice((low, chance.randint(low, high - 1), chance.randint(low, high - 1), high,
                        chance.randrange(4096))) % 4096
    kind = chance.choice((0, 0, 0, 0, 1, 2, 3, 4, 15, chance.randrange(16)))
    return word(low, high, at, chance.choice(lawful_rights()), kind)


BYS = [("box", 0), ("box", 7), ("worth", 0), ("worth", 9), ("worth", 65535)]
DOINGS = ("plus", "minus", "times", "and", "or", "either")
ASKED = ("mark", "bits", "at", "low", "high", "rights", "kind")
TESTS = ("same", "unlike", "under", "from")


def some_rows():
    """Rows of each word, with all the edges of each part, each with its text."""
    rows = [(("back",), "back")]
    for box in (0, 3, 7):
        rows.extend([((word, box), f"{word} {box}")
                     for word in ("entry", "here", "enter", "call", "give")])
        for number in (0, 9, 65535):
            rows.append((("set", box, number), f"set {box} {number}"))
        for by in BYS:
            text = str(by[1]) if by[0] == "box" else f"#{by[1]}"
            rows.extend([((word, box, by), f"{word} {box} {text}")
                         for word in ("walk", "narrow", "exact", "room")])
            rows.extend([(("do", word, box, by), f"{word} {box} {text}") for word in DOINGS])
            for to in (0, 63, 4095):
                rows.extend([(("jump", word, box, by, to), f"jump {word} {box} {text} {to}")
                             for word in TESTS])
        for other in (0, 5, 7):
            rows.extend([((word, box, other), f"{word} {box} {other}")
                         for word in ("move", "seal", "open")])
            rows.extend([(("ask", box, what, other), f"ask {box} {what} {other}")
                         for what in ASKED])
            for offset in (-8, -1, 0, 2, 15):
                rows.append((("load", box, other, offset), f"load {box} {other} {offset}"))
                rows.append((("store", other, offset, box), f"store {other} {offset} {box}"))
                rows.append((("poke", other, offset, box), f"poke {other} {offset} {box}"))
    rows.extend([(("less", 7, rights), f"less 7 {rights or '-'}") for rights in all_rights()])
    rows.extend([(("go", to), f"go {to}") for to in (0, 63, 64, 4095)])
    return rows
