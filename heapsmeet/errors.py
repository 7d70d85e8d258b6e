"""The refusals of heapsmeet."""


class HeapsError(ValueError):
    """Each refusal of the program stands under this one."""


class TooMany(HeapsError):
    """More points, heaps or groups than the program takes."""


class TooFew(HeapsError):
    """Fewer points than are enough."""


class NotHeld(HeapsError):
    """A colour doesn't hold what each colour has to hold."""

    def __init__(self, colour):
        super().__init__("a colour does not hold it")
        self.colour = colour


class NoDepth(HeapsError):
    """A depth isn't told in space."""


class Flat(HeapsError):
    """A table leads two spots to one."""


class NoText(HeapsError):
    """What was handed in tells no points."""


class NoPoint(HeapsError):
    """There is no point of that number."""


class NotPoint(HeapsError):
    """A spot is no point."""
