"""Programs drawn from fixed beginnings, so that they go alike each time."""

import plainly

LETTERS = "abcdefgh"

# Of whatever is drawn, own cells and stacks lie below: four compartments of 64, a stack of 256.
MOST_USED = 16 + 4 * 64 + 256 + 3 * 16
RIGHTS = ("rwlsf", "rwls", "rl", "rlf", "r", "w", "rw", "", "fx", "x", "fco", "o", "rwlsnf", "f")


def draw(chance, least=40):
    """A program: compartments, the name of the one that begins, and a stack."""
    names = LETTERS[:chance.choice((1, 2, 2, 3, 3, 4))]
    begin = chance.choice(names)
    made = []
    for name in names:
        many = chance.choice((6, 9, 17, 64))
        # What begins ends at its first fault; so it is careful more often than the others.
        careful = 0.93 if name == begin else chance.choice((0, 0.5, 0.9))
        rows = draw_rows(chance, chance.randint(5, least), careful, name == begin)
        doors = sorted({0} | {chance.randrange(len(rows)) for _ in range(chance.randint(0, 2))})
        made.append((name, rows, tuple(doors), many))
    doors = [(name, k) for name, _, held, _ in made for k in range(len(held))]
    told = [(name, rows, held, many, tuple(chance.choices(doors, k=3)))
            for name, rows, held, many in made]
    return told, begin, chance.choice((64, 64, 64, 1, 2, 9, 17, 33, 256))


def draw_rows(chance, least, careful, begins):
    rows = []
    while len(rows) < least:
        some = draw_careful if chance.random() < careful else draw_some
        rows.extend(some(chance))
        if not begins and chance.random() < 0.15:
            rows.append(("back",))
    rows = rows[:60]
    # Calls come back, and what begins begins again.
    rows.append(("go", chance.choice((0, 0, 1, 5))) if begins else ("back",))
    return rows


def draw_careful(chance):
    """A few rows that fault seldom: they leave boxes 6 and 7 alone, and reach own cells only."""
    free, other, third = (chance.randrange(6) for _ in range(3))
    own = chance.randrange(6)
    by = draw_by(chance)
    return chance.choice((
        [("set", free, chance.choice((0, 1, 5, 17, 65535, chance.randrange(65536))))],
        [("move", free, other)], [("move", free, 7)], [("move", free, 6)],
        [("do", chance.choice(plainly.DOINGS), free, by)], [("walk", free, by)],
        [("move", free, 7), ("walk", free, ("worth", chance.randrange(4))), ("narrow", free, by)],
        [("narrow", free, by)], [("exact", free, by)], [("less", free, chance.choice(RIGHTS))],
        [("load", free, 7, 0), ("seal", other, free)], [("load", free, 7, 0), ("open", other, free)],
        [("load", free, 7, own)], [("load", free, 7, own)], [("load", free, 7, 4 + own % 2)],
        [("store", 7, 4 + own % 2, free)], [("store", 7, 4 + own % 2, free)], [("poke", 7, own, free)],
        [("here", free), ("walk", free, ("worth", 3)), ("entry", free), ("enter", free)],
        [("here", free)], [("ask", free, chance.choice(plainly.ASKED), other)],
        [("jump", chance.choice(plainly.TESTS), free, by, chance.randrange(15))],
        [("load", free, 7, 1), ("call", free)], [("load", free, 7, 2), ("call", free)],
        [("load", free, 7, 3), ("call", free)], [("load", free, 7, 1 + own % 3), ("call", free)],
        [("room", free, ("worth", chance.choice((1, 2, 16, 17, 40, 300, 4096)))),
         ("move", other, free)],
        [("room", free, ("worth", 3)), ("store", 7, 4, free), ("give", free)],
        [("room", free, ("worth", 20)), ("load", free, free, 0)],
        [("room", free, ("worth", 20)), ("store", free, 5, free), ("store", 7, 5, free)],
        [("room", free, ("worth", 2)), ("store", free, 1, other), ("store", 7, 4, free)],
        [("room", free, ("worth", 1)), ("move", other, free), ("give", free),
         ("store", 7, 4, other)],
        [("room", free, ("worth", 9)), ("move", other, free), ("give", free),
         ("load", third, other, 0)]))


def draw_box(chance):
    return chance.choice((0, 0, 1, 1, 2, 2, 3, 4, 5, 6, 7))


def draw_by(chance):
    if chance.random() < 0.25:
        return "box", draw_box(chance)
    return "worth", chance.choice((0, 1, 1, 2, 3, 4, 5, 8, 15, 16, 17, 33, 100, 4095, 4094, 4080,
                                   chance.randrange(65536)))


def draw_some(chance):
    """A few rows that belong together."""
    one, other, third = (draw_box(chance) for _ in range(3))
    by = draw_by(chance)
    offset = chance.choice((0, 1, 2, 3, 4, 5, -1, -2, chance.randint(-8, 15)))
    free = chance.randrange(6)
    return chance.choice((
        [("set", free, chance.choice((0, 1, 5, 17, 65535, chance.randrange(65536))))],
        [("move", free, other)], [("move", one, other)],
        [("do", chance.choice(plainly.DOINGS), free, by)],
        [("walk", one, by)], [("walk", free, by)], [("walk", 6, ("worth", 4095)), ("load", free, 7, 1)],
        [("move", free, 7), ("walk", free, ("worth", chance.randrange(4))), ("narrow", free, by)],
        [("move", free, 6), ("walk", free, ("worth", 4092)), ("narrow", free, ("worth", 2))],
        [("narrow", free, by)], [("exact", free, by)], [("less", one, chance.choice(RIGHTS))],
        [("less", free, chance.choice(RIGHTS))], [("here", free), ("less", free, "rwf")],
        [("load", 5, 7, 0), ("seal", free, 5)], [("load", 4, 7, 0), ("open", free, 4)],
        [("seal", one, other)], [("open", one, other)], [("entry", one)],
        [("here", free), ("walk", free, ("worth", 2)), ("entry", free), ("store", 7, 4, free)],
        [("here", free)], [("ask", one, chance.choice(plainly.ASKED), free)],
        [("load", free, 7, abs(offset))], [("load", free, 7, offset)], [("load", free, other, 0)],
        [("load", free, other, offset)], [("load", free, 6, -1 - abs(offset) % 8)],
        [("store", 7, abs(offset), one)], [("store", 7, offset, one)], [("store", other, 0, one)],
        [("store", 6, -1 - abs(offset) % 8, one)], [("store", other, offset, one)],
        [("move", free, 7), ("less", free, chance.choice(("rw", "rws", "wl"))), ("store", free, 5, 7)],
        [("poke", 7, abs(offset), one)], [("poke", other, 0, one)],
        [("set", free, 4097), ("poke", 7, abs(offset), free), ("load", free, 7, abs(offset))],
        [("jump", chance.choice(plainly.TESTS), one, by, chance.randrange(50))],
        [("go", chance.randrange(50))], [("enter", one)],
        [("load", free, 7, 1), ("call", free)], [("load", free, 7, 2), ("call", free)],
        [("load", free, 7, 3), ("call", free)], [("load", free, 7, 1), ("enter", free)],
        [("walk", 6, ("worth", 4096 - chance.randrange(9))), ("load", 0, 7, 1), ("call", 0)],
        [("call", one)], [("back",)],
        [("room", free, ("worth", chance.choice((1, 2, 16, 17, 40, 300, 2000, 4096))))],
        [("room", free, by)], [("room", 3, ("worth", 3)), ("store", 7, 4, 3), ("give", 3)],
        [("room", 2, ("worth", 20)), ("store", 2, 5, 2), ("store", 7, 5, 2)],
        [("load", 2, 7, 5), ("give", 2)], [("load", 2, 7, 4), ("load", 3, 2, 0)],
        [("give", one)], [("give", free)]))


def draw_hands(chance):
    """What the driver hands: words to anything but the stack and the heap, wherever these lie."""
    return {box: draw_handed(chance) for box in range(6) if chance.random() < 0.4}


def draw_handed(chance):
    rights = chance.choice([one for one in plainly.lawful_rights() if "n" not in one])
    kind = chance.choice((0, 0, 0, 1, 2, 3, 4, 15))
    if any(sign in rights for sign in "rwls"):
        # Cells of compartments lie from 16 on, and each one drawn here has six at least.
        low, high = chance.choice(((0, 16), (16, 18), (17, 22), (9, 20), (3, 4)))
    else:
        low, high = chance.choice(((0, 16), (3, 4), (4, 9), (0, 256), (16, 52)))
    return plainly.word(low, high, low + chance.randrange(3), rights, kind)


def draw_blind(chance):
    """A program that goes by no address and no kind as a number: box 5 alone holds numbers."""
    names = LETTERS[:chance.choice((2, 3, 4, 6))]
    begin = chance.choice(names)
    made = []
    for name in names:
        rows = []
        while len(rows) < chance.randint(10, 45):
            rows.extend(draw_some_blind(chance))
            if name != begin and chance.random() < 0.15:
                rows.append(("back",))
        rows.append(("go", 0) if name == begin else ("back",))
        doors = sorted({0} | {chance.randrange(len(rows)) for _ in range(2)})
        made.append((name, rows, tuple(doors), chance.choice((6, 9, 17, 33, 64))))
    doors = [(name, k) for name, _, held, _ in made for k in range(len(held))]
    told = [(name, rows, held, many, tuple(chance.choices(doors, k=3)))
            for name, rows, held, many in made]
    return told, begin, chance.choice((64, 64, 9, 17, 33, 256))


def draw_some_blind(chance):
    """A few rows; what few bits tell of sizes up to 256 hangs on no place."""
    free, other, third = (chance.randrange(5) for _ in range(3))
    own = chance.randrange(6)
    number = ("worth", chance.randrange(9))
    return chance.choice((
        [("set", 5, chance.randrange(9))], [("do", chance.choice(plainly.DOINGS), 5, number)],
        [("ask", free, chance.choice(("mark", "rights")), 5)],
        [("jump", chance.choice(plainly.TESTS), 5, number, chance.randrange(12))],
        [("move", free, other)], [("move", free, 7)], [("move", free, 6)],
        [("move", free, 7), ("walk", free, number), ("narrow", free, ("worth", 1 + own))],
        [("move", free, 6), ("walk", free, ("worth", 4090)), ("exact", free, ("worth", 1 + own))],
        [("walk", free, number)], [("narrow", free, number)], [("exact", free, number)],
        [("less", free, chance.choice(RIGHTS))], [("here", free)], [("less", free, "rwls")],
        [("load", free, 7, 0), ("seal", other, free)], [("load", free, 7, 0), ("open", other, free)],
        [("load", free, 7, own)], [("load", free, 7, 4 + own % 2)], [("load", free, other, 0)],
        [("store", 7, 4 + own % 2, free)], [("store", 7, 4 + own % 2, free)], [("poke", 7, own, 5)],
        [("store", 6, -1 - own, free)], [("load", free, 6, -1 - own)], [("store", 6, -1, 6)],
        [("walk", 6, ("worth", 4096 - own)), ("load", free, 7, 1), ("call", free)],
        [("here", free), ("walk", free, ("worth", 3)), ("entry", free), ("enter", free)],
        [("load", free, 7, 1 + own % 3), ("call", free)],
        [("load", free, 7, 1 + own % 3), ("call", free)],
        [("room", free, ("worth", chance.choice((1, 2, 16, 17, 40))))],
        [("room", free, ("worth", 9)), ("store", free, 1, other), ("store", 7, 4, free)],
        [("room", free, ("worth", 3)), ("store", 7, 4, free), ("give", free)],
        [("room", free, ("worth", 20)), ("move", other, free), ("give", free),
         ("load", third, other, 0)]))
