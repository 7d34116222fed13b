"""Rows of four, told from each of their posts. What is passed is not looked at: the callers know it."""

from oddsquares.arithmetic import ONE, sign


def steps_of(ratio):
    """From which posts a frame of this ratio is read."""
    return (0, 1, 2, 3) if ratio == ONE else (0, 2)


def from_each(row, ratio):
    """A row of four told from the posts from which a frame of this ratio is read, the first one first."""
    return tuple([row[step:] + row[:step] for step in steps_of(ratio)])


def least_round(posts):
    """The posts of a frame told from a post that is the same whichever reading is passed.

    As a frame of a ratio other than 1 is none of this ratio when it is told from the next post, its readings may
    here be told from all posts.
    """
    return min([posts[step:] + posts[:step] for step in range(4)])


def word_of(four):
    """The fences of four sides."""
    return tuple([at[0] for at in four])


def kind_of(word, size, ratio):
    """The kind of a frame with this word, on a four whose determinant has the sign of this size."""
    if ratio == ONE and word == (word[0],) * 4:
        return 0
    return sign(size)


def _is_least(word, four, steps):
    """Whether no other reading of four sides, told by their numbers, has a lesser (word, four)."""
    for step in steps:
        turned = word[step:] + word[:step]
        if turned < word or (turned == word and four[step:] + four[:step] < four):
            return False
    return True


def least_fours(fours, sides, ratio):
    """Those of some fours, told by the numbers of sides, that are the reading with the least (word, four)."""
    fences = [at[0] for at in sides]
    steps = steps_of(ratio)[1:]
    return [(a, b, c, d) for a, b, c, d in fours
            if _is_least((fences[a], fences[b], fences[c], fences[d]), (a, b, c, d), steps)]
