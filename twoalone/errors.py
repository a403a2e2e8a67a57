"""All refusals of the program, each straight under AloneError."""


class AloneError(ValueError):
    """Any refusal."""


class NoTask(AloneError):
    """No task; what tells which part of it is none."""

    def __init__(self, what):
        AloneError.__init__(self, "this is no task")
        self.what = what


class NoHand(AloneError):
    """Neither 0 nor 1."""


class NoJoint(AloneError):
    """Tasks whose outputs are too great to be done at once."""


class NoRounds(AloneError):
    """No number of rounds that can be asked for here."""


class NoInputs(AloneError):
    """No pair of inputs."""


class NoWeaving(AloneError):
    """No list of the steps that the hands may do."""


class NoKnown(AloneError):
    """Nothing that this hand ever knows."""


class NoProtocol(AloneError):
    """No protocol of the form for this task."""


class NoChoice(AloneError):
    """No choice of outputs let alone."""


class Barred(AloneError):
    """No protocol is there; bar tells why not."""

    def __init__(self, bar):
        AloneError.__init__(self, "a bar stands against these rounds")
        self.bar = bar


class TooMany(AloneError):
    """Too many ways to go through; many tells how many."""

    def __init__(self, many):
        AloneError.__init__(self, "these are too many ways to go through")
        self.many = many


class NoMade(AloneError):
    """No way to make this task of the other one."""


class NoText(AloneError):
    """No text of a task."""
