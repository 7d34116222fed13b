"""Determinants of four rows, told by the six determinants of two columns each of the first two rows and the last two.

What is passed is not looked at: the callers know it.
"""


def six_of(one, other):
    """Of two rows of four the determinants of the columns 0 1, 0 2, 0 3, 1 2, 1 3, 2 3."""
    a, b, c, d = one
    e, f, g, h = other
    return (a * f - b * e, a * g - c * e, a * h - d * e, b * g - c * f, b * h - d * f, c * h - d * g)


def facing(six):
    """The six of the last two rows as joint takes them: each at the place of the two columns that it leaves out."""
    return (six[5], -six[4], six[3], six[2], -six[1], six[0])


def joint(six, faced):
    """The determinant of four rows, by the six of the first two and what facing makes of those of the last two."""
    return (six[0] * faced[0] + six[1] * faced[1] + six[2] * faced[2]
            + six[3] * faced[3] + six[4] * faced[4] + six[5] * faced[5])
