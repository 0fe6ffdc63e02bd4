"""What the driver hands to the boxes of a machine at first."""

from sealedreach.cells import EMPTY
from sealedreach.errors import NoHands
from sealedreach.switch import STACK_BOX, stack_word
from sealedreach.whole import is_whole
from sealedreach.words import bounds_in, is_lawful, leads_to_cells, rights_in

MOST_HANDED = 5


def look_at_hands(thing, stack, heap):
    """Refuse, of any kind, what can't be handed to a machine with this stack and this heap."""
    if thing is None:
        return
    if not isinstance(thing, dict):
        raise NoHands("hands are a dict")
    for box, word in thing.items():
        if not is_whole(box, 0, MOST_HANDED):
            raise NoHands("words are handed to the boxes 0 to 5")
        if not is_lawful(word):
            raise NoHands("lawful words are handed")
        if _is_the_machines_own(word, stack, heap):
            raise NoHands("no near words are stored by what is handed, no stack and no heap reached")


def first_boxes(hands, stack, cells_word):
    """Tell the words that stand in the boxes at first."""
    boxes = [EMPTY] * STACK_BOX
    if hands is not None:
        for box, word in hands.items():
            boxes[box] = word
    return [*boxes, stack_word(stack[0], stack[1]), cells_word]


def _is_the_machines_own(word, stack, heap):
    """Tell whether a word stores near words, or reaches what the machine gives out by itself."""
    if word[0] and "n" in rights_in(word[1]):
        return True
    return leads_to_cells(word) and any([_share_cells(word, bounds) for bounds in (stack, heap)])


def _share_cells(word, bounds):
    low, high = bounds_in(word[1])
    return low < bounds[1] and bounds[0] < high
