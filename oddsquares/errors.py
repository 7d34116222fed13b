"""The errors of the package. Each one keeps its fields as they were passed."""


class OddError(ValueError):
    """The base of all errors of the package."""


class BadNumber(OddError):
    """A part is no number, or none within its bounds."""

    def __init__(self, part):
        self.part = part


class BadPoint(OddError):
    """A part is no point, no vector, or no list of points."""

    def __init__(self, part):
        self.part = part


class BadText(OddError):
    """A part is no text of the kind that is asked for."""

    def __init__(self, part):
        self.part = part


class BadFence(OddError):
    """A part is no fence, or no list of corners of one."""

    def __init__(self, part):
        self.part = part


class BadLot(OddError):
    """A part is no lot, or no list of fences of one."""

    def __init__(self, part):
        self.part = part


class BadRatio(OddError):
    """A part is no number above 0."""

    def __init__(self, part):
        self.part = part


class BadSides(OddError):
    """A part is no side, or no list of sides, of the lot or of the film."""

    def __init__(self, part):
        self.part = part


class BadFilm(OddError):
    """A part is no film, or no list of rows of corners of one."""

    def __init__(self, part):
        self.part = part


class BadEars(OddError):
    """A part is no ear, or no list of cuts."""

    def __init__(self, part):
        self.part = part


class BadPaper(OddError):
    """A part is no paper of the class that is asked for."""

    def __init__(self, part):
        self.part = part


class Misfit(OddError):
    """A part does not fit together with the others."""

    def __init__(self, part):
        self.part = part


class NoFence(OddError):
    """Corners make no fence; why is a denial."""

    def __init__(self, why):
        self.why = why


class NoLot(OddError):
    """Fences make no lot; why is a denial."""

    def __init__(self, why):
        self.why = why


class NoFilm(OddError):
    """Two moments make no film."""

    def __init__(self, word, fence, side):
        self.word = word
        self.fence = fence
        self.side = side


class TooMany(OddError):
    """There are more of them than most."""

    def __init__(self, what, most):
        self.what = what
        self.most = most


class BadLine(OddError):
    """The lines of a text fail in this line, at this word."""

    def __init__(self, line, word):
        self.line = line
        self.word = word
