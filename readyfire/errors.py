"""The refusals: one class for each, all under FireError."""


class FireError(ValueError):
    """Any refusal."""


class NoPlan(FireError):
    """What was handed in is no plan."""


class NoTurn(FireError):
    """What was handed in is no turn, or no number of turns."""


class NoPlace(FireError):
    """What was handed in is no place, or none to which a value may be put."""


class NoValue(FireError):
    """What was handed in is no value."""


class TokenThere(FireError):
    """At that place a value is there for that turn."""


class NoStep(FireError):
    """What was handed in is no step's name."""


class Fired(FireError):
    """That step has fired for that turn."""


class NotReady(FireError):
    """That step is not ready for that turn."""


class IsReady(FireError):
    """That step is ready for that turn, so it waits for nothing."""


class NoText(FireError):
    """What was handed in is no text of a plan."""
