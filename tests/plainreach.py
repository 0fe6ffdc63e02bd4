"""Closed tables worked out plainly, as the document says it, by a search that goes on till no
word is missing."""

from plainmachine import bounds_of, changed, lawful, number_of_rights, parts, rights_of, to_cells


def kind_of(word):
    return parts(word[1])["kind"]


def within(one, other):
    """Point 7, of marked words."""
    low, high = bounds_of(one[1])
    other_low, other_high = bounds_of(other[1])
    kinds = kind_of(one) == kind_of(other) or (kind_of(other) == 0 and kind_of(one) != 2)
    return (kinds and other_low <= low and high <= other_high
            and set(rights_of(one[1])) <= set(rights_of(other[1])))


def in_table(word, table):
    return any(within(word, other) for other in table)


def stale(word, machine):
    low = bounds_of(word[1])[0]
    return to_cells(word) and any(one <= low < other for one, other in machine.taken())


def of_kind_0(word):
    return True, changed(word[1], kind=0)


def opened(word, opener):
    kept = set(rights_of(word[1])) - (set("f") - set(rights_of(opener[1])))
    return True, changed(word[1], kind=0, rights=number_of_rights(kept))


def now(machine, gates):
    words = machine.boxes() + [machine.row_word()] + (machine.shelf_words() if gates else [])
    return [word for word in words if word[0]]


def brought(word, table, machine, gates):
    """What must lie within a table because this word is one of it."""
    rights, kind = set(rights_of(word[1])), kind_of(word)
    low, high = bounds_of(word[1])
    told = []
    if kind == 0 and {"r", "l"} <= rights:
        cells = [machine.cell(address) for address in range(low, high)]
        told.extend(held for held in cells if held[0] and not stale(held, machine))
    if kind == 1 and "x" in rights:
        told.append(of_kind_0(word))
    if kind >= 3:
        told.extend(opened(word, other) for other in table if kind_of(other) == 0
                    and "o" in rights_of(other[1])
                    and bounds_of(other[1])[0] <= kind < bounds_of(other[1])[1])
    if kind == 2 and gates:
        told.append(of_kind_0(word))
        for rows_word, cells_word in machine.own_words():
            first, behind = bounds_of(rows_word[1])
            if low <= first and behind <= high:
                told.append(cells_word)
    return told


def closed(machine, table, gates):
    if not isinstance(table, list) or not all(lawful(word) and word[0] for word in table):
        return False
    wanted = now(machine, gates)
    for word in table:
        wanted.extend(brought(word, table, machine, gates))
    return all(in_table(word, table) for word in set(wanted))


def least(machine, gates, beside=()):
    """The least closed table that holds these words beside, not yet sorted."""
    table = list(beside)
    missing = [word for word in now(machine, gates) if not in_table(word, table)]
    while missing:
        table.extend({(True, changed(word[1], at=bounds_of(word[1])[0])) for word in missing})
        wanted = {told for word in table for told in brought(word, table, machine, gates)}
        missing = [word for word in wanted if not in_table(word, table)]
    table = sorted(set(table))
    return [word for word in table
            if not any(within(word, other) for other in table if other != word)]
