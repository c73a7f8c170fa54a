"""What is refused, a class for each kind of refusal."""


class HealError(ValueError):
    """Any refusal."""


class NoNumbers(HealError):
    """So many numbers there can't be."""


class NoRing(HealError):
    """That is no ring of machines."""


class NoMachine(HealError):
    """The ring has no such machine."""


class NotNow(HealError):
    """The machine may not step as the ring stands."""


class NotHealed(HealError):
    """The ring is not healed."""


class TooGreat(HealError):
    """There are more rings than can all be tried."""
