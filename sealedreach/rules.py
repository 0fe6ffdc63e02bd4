"""The rules of a machine, each of which it may be made without."""

from sealedreach.errors import NoRule

RULES = ("poke", "narrow", "less", "open", "sealed", "load", "near", "entry", "clear", "strike",
         "barrier")


def look_at_rule(thing):
    """Refuse, of any kind, what is not the name of a rule."""
    if not isinstance(thing, str) or thing not in RULES:
        raise NoRule("the rules are those of RULES")
