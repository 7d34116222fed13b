"""The determinant of four vectors. What is passed is not looked at: the callers know it."""

from oddsquares.arithmetic import difference, negative, product_of, sum_of
from oddsquares.vectors import cross_of, dot_of


def determinant_of(vectors, ratio):
    """- r r (a . c) (b . d) - (b x c - r (b . c)) (a x d + r (a . d)) for the vectors a, b, c, d and the ratio r."""
    a, b, c, d = vectors
    first = product_of(product_of(ratio, dot_of(a, c)), product_of(ratio, dot_of(b, d)))
    second = product_of(difference(cross_of(b, c), product_of(ratio, dot_of(b, c))),
                        sum_of(cross_of(a, d), product_of(ratio, dot_of(a, d))))
    return negative(sum_of(first, second))
