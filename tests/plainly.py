"""What the document says, worked out plainly, and things of odd kinds to hand in."""

CELLS = 4096


class Odd:
    """A thing that can't be compared, nor asked for a truth."""

    def __eq__(self, other):
        raise AssertionError("compared")

    def __bool__(self):
        raise AssertionError("asked for a truth")

    __hash__ = None


class Counted(int):
    """An int of a class of its own is an int all the same."""


def odd_things():
    """Things of many kinds, none of them a whole number, a text, a tuple of two or of five."""
    return [None, True, False, 1.5, b"", b"rw", [], {}, set(), (), (1,), (1, 2, 3), ((),),
            [0, 1], [0, 4096], {"low": 0}, {0, 1}, object(), Odd(), int, len, Exception()]


def tellable():
    """All bounds that some bits tell, each with the list of its (step, first, count)."""
    told = {}
    for step in range(9):
        for count in range(1, 17):
            for first in range(4096 // 2 ** step):
                if tells(step, first, count):
                    bounds = (first * 2 ** step, first * 2 ** step + count * 2 ** step)
                    told.setdefault(bounds, []).append((step, first, count))
    return told


def tells(step, first, count):
    if not 0 <= step <= 8:
        return False
    if not (step == 0 or count >= 9):
        return False
    return (first + count) * 2 ** step <= 4096


def bits_with(at=0, first=0, count=1, step=0, rights="", kind=0):
    """The bits with these fields, the lowest field first."""
    number = sum(2 ** "rwlsnfxco".index(sign) for sign in rights)
    fields = ((at, 12), (first, 12), (count - 1, 4), (step, 4), (number, 9), (kind, 4))
    bits = 0
    for worth, many in reversed(fields):
        assert 0 <= worth < 2 ** many
        bits = bits * 2 ** many + worth
    return bits


def all_rights():
    """All 512 texts of rights, from none to all."""
    texts = [""]
    for sign in "rwlsnfxco":
        texts = texts + [text + sign for text in texts]
    return texts


def go_together(rights):
    """Whether a marked word may have these rights."""
    cells = any(sign in rights for sign in "rwlsn")
    kinds = "c" in rights or "o" in rights
    if "x" in rights:
        return not cells and not kinds
    return not (kinds and cells)
