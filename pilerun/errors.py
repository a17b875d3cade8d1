"""The refusals of the program."""


class PileError(ValueError):
    """Any refusal."""


class BadMachine(PileError):
    """No number of states, or no list of rules."""


class BadSpot(PileError):
    """No spot of the machine, or no goal."""


class BadRule(PileError):
    """No rule of the machine."""


class TooMany(PileError):
    """There are as many rules as a machine may have."""


class NoArrow(PileError):
    """No arrow of the reader."""


class NoRun(PileError):
    """No row of steps leads from the spot to the goal."""


class TooLong(PileError):
    """The run has more steps than are told."""
