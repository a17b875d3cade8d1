"""The reader: from which spots some steps lead to the goal, in how few, and by which."""

from pilerun.arrows import arrow_reasons, arrow_weights, least_way, own_arrows, read_from, way_steps, way_weight
from pilerun.errors import BadMachine, BadRule, BadSpot, NoArrow, NoRun, TooLong, TooMany
from pilerun.spots import is_number, is_rule, is_spot, is_tuple

MOST_STEPS = 500
MOST_STATES = 5
MOST_RULES = 12
MOST_GOAL_SIGNS = 4


def is_many(thing):
    """Whether it is how many states a machine may have."""
    return is_number(thing) and 1 <= thing <= MOST_STATES


def is_rule_list(thing, many):
    """Whether it is a list of rules as a machine with so many states may have them."""
    if type(thing) is not list or len(thing) > MOST_RULES:
        return False
    return all(is_rule(rule, many) for rule in thing)


def is_goal(thing, many):
    """Whether it is a goal in a machine with so many states."""
    return is_spot(thing, many) and len(thing[1]) <= MOST_GOAL_SIGNS


def is_arrow(thing, weights):
    """Whether it is one of the arrows that have a weight."""
    if not is_tuple(thing, 3):
        return False
    room, sign, other = thing
    # The parts are asked first: a dict finds True and 1.0 where 1 stands, and fails over a list.
    return is_number(room) and type(sign) is str and is_number(other) and thing in weights


class Reader:
    """Reads the piles from which the rules of a machine lead to a goal."""

    def __init__(self, many, rules, goal):
        if not is_many(many):
            raise BadMachine("a machine has 1 to 5 states")
        if not is_rule_list(rules, many):
            raise BadMachine("a machine has a list of at most 12 rules")
        if not is_goal(goal, many):
            raise BadSpot("a goal is a spot with a pile of at most four signs")
        state, pile = goal
        self._many = many
        self._rules = list(rules)
        self._own = own_arrows(many, goal)
        self._rooms = many + len(pile)
        self._end = self._rooms - 1 if pile else state
        self._find_arrows()

    def _find_arrows(self):
        """Work out what the rules bring."""
        self._weights = arrow_weights(self._rules, self._own, self._rooms)
        self._reasons = arrow_reasons(self._rules, self._own, self._weights, self._rooms)

    def _check_arrow(self, arrow):
        """Refuse what is none of the arrows."""
        if not is_arrow(arrow, self._weights):
            raise NoArrow("this reader has no such arrow")

    def _check_spot(self, spot):
        """Refuse what is no spot of the machine."""
        if not is_spot(spot, self._many):
            raise BadSpot("a spot is a state and a pile of signs")

    def rules(self):
        """The rules, in order."""
        return list(self._rules)

    def rooms(self):
        """How many rooms there are."""
        return self._rooms

    def end(self):
        """The room where a pile must be read to."""
        return self._end

    def arrows(self):
        """All arrows, rising."""
        return sorted(self._weights)

    def weight(self, arrow):
        """The weight of an arrow."""
        self._check_arrow(arrow)
        return self._weights[arrow]

    def reason(self, arrow):
        """None for the goal's own arrows, else the number of a rule and the way that reads its push."""
        self._check_arrow(arrow)
        return self._reasons[arrow]

    def least(self, spot):
        """The least number of steps from the spot to the goal; None where no steps lead there."""
        self._check_spot(spot)
        state, pile = spot
        return read_from(state, pile, self._weights, self._rooms).get(self._end)

    def way(self, spot):
        """The arrows that read the pile of the spot with the least weight."""
        self._check_spot(spot)
        state, pile = spot
        way = least_way(state, pile, self._end, self._weights, self._rooms)
        if way is None:
            raise NoRun("no steps lead from this spot to the goal")
        return way

    def run(self, spot):
        """The numbers of the rules that lead from the spot to the goal in the least number of steps."""
        way = self.way(spot)
        if way_weight(way, self._weights) > MOST_STEPS:
            raise TooLong("the run has more than 500 steps")
        return way_steps(way, self._reasons)

    def learn(self, rule):
        """Put one rule more behind the others; the arrows that came or became lighter, rising."""
        if not is_rule(rule, self._many):
            raise BadRule("this is no rule of the machine")
        if len(self._rules) >= MOST_RULES:
            raise TooMany("a machine has at most 12 rules")
        older = self._weights
        self._rules.append(rule)
        self._find_arrows()
        newer = self._weights
        return sorted([arrow for arrow in newer if arrow not in older or newer[arrow] < older[arrow]])
