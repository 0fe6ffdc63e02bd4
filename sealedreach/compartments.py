"""Compartments: the parts of a program, each with rows, doors, cells and what it uses of others."""

from sealedreach.errors import NoCompartment, NoRows
from sealedreach.rows import look_at_rows
from sealedreach.whole import is_whole

MOST_COMPARTMENTS = 8
MOST_SIGNS = 8
MOST_CELLS = 64


def look_at_compartments(thing):
    """Refuse, of any kind, what is no list of compartments."""
    if not isinstance(thing, list) or not 1 <= len(thing) <= MOST_COMPARTMENTS:
        raise NoCompartment(None, None)
    doors = {}
    for number, one in enumerate(thing):
        part = _wrong_part(one, doors)
        if part is not None:
            raise NoCompartment(number, part)
        doors[one[0]] = len(one[2])
    # What is used may be a door of a compartment farther on.
    for number, (_, _, _, many, uses) in enumerate(thing):
        if not _are_uses(uses, many, doors):
            raise NoCompartment(number, "uses")


def is_name(thing):
    """Tell of anything whether it is 1 to 8 small letters."""
    if not isinstance(thing, str) or len(thing) > MOST_SIGNS:
        return False
    return thing.isascii() and thing.isalpha() and thing.islower()


def _wrong_part(thing, doors):
    """Tell the first part but uses that isn't so, None where all are; doors tell the names ahead."""
    if not isinstance(thing, tuple) or len(thing) != 5:
        return "form"
    name, rows, own_doors, many, _ = thing
    if not is_name(name) or name in doors:
        return "name"
    if not _are_rows(rows):
        return "rows"
    if not _are_doors(own_doors, len(rows)):
        return "doors"
    if not is_whole(many, 1, MOST_CELLS):
        return "many"
    return None


def _are_rows(thing):
    try:
        look_at_rows(thing)
    except NoRows:
        return False
    return True


def _are_doors(thing, rows):
    if not isinstance(thing, tuple) or not all([is_whole(door, 0, rows - 1) for door in thing]):
        return False
    return all([door < behind for door, behind in zip(thing, thing[1:])])


def _are_uses(thing, many, doors):
    # The cell with the number 0 is left to the seal word.
    if not isinstance(thing, tuple) or len(thing) > many - 1:
        return False
    return all([_is_use(use, doors) for use in thing])


def _is_use(thing, doors):
    if not isinstance(thing, tuple) or len(thing) != 2:
        return False
    name, number = thing
    return is_name(name) and name in doors and is_whole(number, 0, doors[name] - 1)
