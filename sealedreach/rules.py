"""The rules of a machine, and for each of them a program that reaches farther without it."""

from sealedreach.errors import NoDeeds, NoRule
from sealedreach.texts import read
from sealedreach.whole import is_whole

RULES = ("poke", "narrow", "less", "open", "sealed", "load", "near", "entry", "clear", "strike",
         "barrier")

MOST_STEPS = 100000
MOST_SWEPT = 4096

# Of each rule: compartments, their rows of text parted by `; `, which of them begins, deeds, and
# the touch that no machine with the rule does.
BREAKING = {
    # A word in a cell is poked to lead to the cell 1.
    "poke": (
        "part a 1; doors; set 0 4097; store 7 0 7; poke 7 0 0; load 0 7 0; load 1 0 0; back",
        "a", (("run", 9),), ("a", "read", 1)),
    # The word to one's own cells is narrowed to the one behind them.
    "narrow": (
        "part a 1; doors; walk 7 #1; narrow 7 #1; load 0 7 0; back",
        "a", (("run", 9),), ("a", "read", 17)),
    # The word to one's own rows becomes one that reads cells with the same numbers.
    "less": (
        "part a 1; doors; here 0; less 0 r; load 1 0 0; back",
        "a", (("run", 9),), ("a", "read", 1)),
    # What b hands back sealed, a opens without an opener.
    "open": (
        "part a 2; doors; use b 0; load 0 7 1; call 0; open 0 7; load 1 0 0; back; "
        "part b 1; doors 0; move 0 7; load 1 7 0; seal 0 1; back",
        "a", (("run", 20),), ("a", "read", 18)),
    # What b hands back sealed, a uses as it is.
    "sealed": (
        "part a 2; doors; use b 0; load 0 7 1; call 0; load 1 0 0; back; "
        "part b 1; doors 0; move 0 7; load 1 7 0; seal 0 1; back",
        "a", (("run", 20),), ("a", "read", 18)),
    # b lets a read one of its cells, and a uses the word that stands there.
    "load": (
        "part a 2; doors; use b 0; load 0 7 1; call 0; load 1 0 0; load 2 1 0; back; "
        "part b 2; doors 0; store 7 1 7; move 0 7; walk 0 #1; narrow 0 #1; less 0 r; back",
        "a", (("run", 20),), ("a", "read", 18)),
    # b keeps what a lent it for one call, and uses it in the next one.
    "near": (
        "part a 3; doors; use b 0; use b 1; move 0 7; less 0 rwls; load 1 7 1; call 1; set 0 0; "
        "load 1 7 2; call 1; back; "
        "part b 2; doors 0 2; store 7 1 0; back; load 0 7 1; load 1 0 0; back",
        "a", (("run", 20),), ("b", "read", 16)),
    # The rows of b run with the boxes of a.
    "entry": (
        "part a 2; doors; use b 0; load 0 7 1; enter 0; back; "
        "part b 1; doors 0; load 1 7 0; back",
        "a", (("run", 20),), ("b", "read", 16)),
    # b finds what a left below on the stack.
    "clear": (
        "part a 2; doors; use b 0; store 6 -1 7; load 0 7 1; call 0; back; "
        "part b 1; doors 0; load 0 6 -1; load 1 0 0; back",
        "a", (("run", 20),), ("b", "read", 16)),
    # A word in a box outlives the sweep, and leads to a room that may be somebody else's.
    "strike": (
        "part a 1; doors; room 0 #1; give 0; load 1 0 0; back",
        "a", (("run", 2), ("begin",), ("sweep", 4096), ("run", 1)), ("a", "read", 96)),
    # A word in a cell is loaded ahead of the sweep, and outlives it.
    "barrier": (
        "part a 1; doors; room 0 #1; store 7 0 0; give 0; load 1 7 0; load 2 1 0; back",
        "a", (("run", 3), ("begin",), ("run", 1), ("sweep", 4096), ("run", 1)),
        ("a", "read", 96)),
}


def look_at_rule(thing):
    """Refuse, of any kind, what is not the name of a rule."""
    if not isinstance(thing, str) or thing not in RULES:
        raise NoRule("the rules are those of RULES")


def breaking(rule):
    """Tell compartments, which of them begins, deeds, and a touch that the rule bars."""
    look_at_rule(rule)
    text, begin, deeds, touch = BREAKING[rule]
    return read(text.replace("; ", "\n")), begin, list(deeds), touch


def played(machine, deeds):
    """Do deeds on a machine, one behind the other."""
    if not isinstance(deeds, list):
        raise NoDeeds(None)
    for number, deed in enumerate(deeds):
        if not _is_deed(deed):
            raise NoDeeds(number)
    for deed in deeds:
        if deed[0] == "run":
            machine.run(deed[1])
        elif deed[0] == "begin":
            machine.begin_sweep()
        else:
            machine.sweep(deed[1])


def _is_deed(thing):
    if not isinstance(thing, tuple) or len(thing) == 0:
        return False
    word, *rest = thing
    if not isinstance(word, str) or word not in ("run", "begin", "sweep"):
        return False
    if word == "begin":
        return rest == []
    least, most = (0, MOST_STEPS) if word == "run" else (1, MOST_SWEPT)
    return len(rest) == 1 and is_whole(rest[0], least, most)
