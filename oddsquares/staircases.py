"""How many lives there are as a film goes on."""

from oddsquares.arithmetic import ZERO
from oddsquares.lives import check_living


def staircase(living):
    """Pairs (moment, many): how many lives are born at 0, and how many go on at each moment with a meet or a part."""
    check_living(living)
    many = len([life for life in living.lives if life[2] == ZERO])
    steps = [(ZERO, many)]
    for moment, _, _, _, what in living.knocks:
        if what == "hand":
            continue
        many = many - 2 if what == "meet" else many + 2
        if steps[-1][0] == moment:
            steps.pop()
        steps.append((moment, many))
    return tuple(steps)
