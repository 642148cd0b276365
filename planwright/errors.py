"""The errors of planwright: all stand under PlanFault, a ValueError."""


class PlanFault(ValueError):
    """What planwright refuses."""


class BadFact(PlanFault):
    """A fact, or a row of facts, that can't be."""


class BadDeed(PlanFault):
    """A deed that can't be, or can't be done."""


class BadPlan(PlanFault):
    """A plan, or an order, that doesn't come to the goal."""


class BadPaper(PlanFault):
    """A paper that doesn't show what it is to show."""


class BadSize(PlanFault):
    """A count or number that is out of bounds."""


class BadText(PlanFault):
    """A text that isn't one of the language."""


class BadStore(PlanFault):
    """Kept words that aren't whole."""


class NoPlan(PlanFault):
    """No plan comes to the goal."""


class NoSuch(PlanFault):
    """What isn't there."""
