"""Rules and spots of a machine, and its single steps."""

# Kinds are compared, not asked with isinstance: True and False would pass there as numbers,
# and a kind made from a tuple, a list or a string could change after it was handed in.
# They are compared by "is": with "==" the class of what is handed in would have its own say.


def is_number(thing):
    """Whether it is a whole number; True and False are none."""
    return type(thing) is int


def is_state(thing, many):
    """Whether it is a state of a machine with so many states."""
    return is_number(thing) and is_number(many) and 0 <= thing < many


def is_sign(thing):
    """Whether it is a sign."""
    # A longer text may stand between "a" and "z", too.
    return type(thing) is str and len(thing) == 1 and "a" <= thing <= "z"


def is_pile(thing):
    """Whether it is a text of signs."""
    return type(thing) is str and all(is_sign(sign) for sign in thing)


def is_tuple(thing, length):
    """Whether it is a tuple of so many parts."""
    return type(thing) is tuple and len(thing) == length


def is_rule(thing, many):
    """Whether it is a rule of a machine with so many states."""
    if not is_tuple(thing, 4):
        return False
    state, sign, to, push = thing
    if not is_state(state, many) or not is_sign(sign) or not is_state(to, many):
        return False
    return is_pile(push) and len(push) <= 2


def is_spot(thing, many):
    """Whether it is a spot of a machine with so many states."""
    if not is_tuple(thing, 2):
        return False
    state, pile = thing
    return is_state(state, many) and is_pile(pile)


def after(rule, spot):
    """The spot behind the rule; None where it doesn't go."""
    state, sign, to, push = rule
    at, pile = spot
    if at != state or not pile.startswith(sign):
        return None
    return (to, push + pile[1:])


def nexts(rules, spot):
    """Pairs of the number of a rule and the spot behind it, of all rules that go, rising."""
    found = []
    for number, rule in enumerate(rules):
        behind = after(rule, spot)
        if behind is not None:
            found.append((number, behind))
    return found
