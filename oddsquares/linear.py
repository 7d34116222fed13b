"""Systems of linear equations in numbers as pairs. What is passed is not looked at: the callers know it."""

from oddsquares.arithmetic import ONE, ZERO, difference, negative, product_of, quotient, sum_of


def further(base, way, share):
    """Row by row base plus share times way."""
    return [sum_of(one, product_of(share, other)) for one, other in zip(base, way)]


def _reduced(rows, many):
    """The rows led to one leading 1 each in the first columns, so many, and these columns."""
    rows = list(rows)
    columns = []
    for column in range(many):
        done = len(columns)
        leading = [number for number in range(done, len(rows)) if rows[number][column] != ZERO]
        if not leading:
            continue
        rows[done], rows[leading[0]] = rows[leading[0]], rows[done]
        scale = rows[done][column]
        rows[done] = [quotient(value, scale) for value in rows[done]]
        for number in range(len(rows)):
            if number != done and rows[number][column] != ZERO:
                rows[number] = further(rows[number], rows[done], negative(rows[number][column]))
        columns.append(column)
    return rows, columns


def solutions(rows, many):
    """All solutions of equations in so many unknowns: each row has their factors and then what they make.

    None if there is none; otherwise the pair of one solution and the list of the ways on which one can go on from it.
    """
    rows, columns = _reduced(rows, many)
    if any([row[many] != ZERO for row in rows[len(columns):]]):
        return None
    base = [ZERO] * many
    for number, column in enumerate(columns):
        base[column] = rows[number][many]
    ways = []
    for free in range(many):
        if free in columns:
            continue
        way = [ZERO] * many
        way[free] = ONE
        for number, column in enumerate(columns):
            way[column] = negative(rows[number][free])
        ways.append(way)
    return (base, ways)


def narrowed(base, ways, place, value):
    """Those of the solutions base and ways that have this value at this place; None if all have the same one there."""
    moving = [number for number, way in enumerate(ways) if way[place] != ZERO]
    if not moving:
        return None
    lead = ways[moving[0]]
    rest = ways[:moving[0]] + ways[moving[0] + 1:]
    start = further(base, lead, quotient(difference(value, base[place]), lead[place]))
    return (start, [further(way, lead, negative(quotient(way[place], lead[place]))) for way in rest])
