"""The errors of the package."""


class ReissueError(ValueError):
    """What all errors of the package have in common."""


class InvalidBehavior(ReissueError):
    """Something is no behavior, or describes none."""

    def __init__(self, value=None):
        self.value = value


class InvalidNumber(ReissueError):
    """A number does not fit."""

    def __init__(self, value=None):
        self.value = value


class InvalidRule(ReissueError):
    """Something is no rule."""

    def __init__(self, value=None):
        self.value = value


class InvalidList(ReissueError):
    """A list does not fit."""

    def __init__(self, value=None):
        self.value = value


class InvalidName(ReissueError):
    """Something cannot be a name."""

    def __init__(self, name=None):
        self.name = name


class UnknownName(ReissueError):
    """Nothing is kept by a name."""

    def __init__(self, name=None):
        self.name = name


class TakenName(ReissueError):
    """Something is kept by a name already."""

    def __init__(self, name=None):
        self.name = name


class NotOut(ReissueError):
    """An identifier that is not out was to be taken back."""

    def __init__(self, number=None):
        self.number = number


class NoneFree(ReissueError):
    """No identifier can be handed out."""


class NothingToUndo(ReissueError):
    """There is no step that could be undone."""
