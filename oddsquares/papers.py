"""Papers: an answer and what shows it. A denial is a paper that says no."""


def fixed(value):
    """The value with tuples in the place of lists, all the way in."""
    if isinstance(value, (list, tuple)):
        return tuple([fixed(item) for item in value])
    return value


def _are_equal(one, other):
    """Whether two papers are of one class, with equal words and parts."""
    return type(one) is type(other) and (one.word, one.parts) == (other.word, other.parts)


class Paper:
    """A paper: true."""

    def __init__(self, word, *parts):
        self.word = fixed(word)
        self.parts = fixed(parts)

    def __bool__(self):
        return True

    def __eq__(self, other):
        return _are_equal(self, other)


class Denial(Paper):
    """A paper that says no: false."""

    def __init__(self, word, *parts):
        super().__init__(word, *parts)

    def __bool__(self):
        return False

    def __eq__(self, other):
        return _are_equal(self, other)
