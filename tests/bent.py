"""Values that are no right parts of papers: right ones, bent in one part."""

from tests.values import NO_NUMBERS


def bent_posts(posts):
    """Values that are no such posts in a paper: the same ones, bent in one part."""
    bent = [posts[:3], posts + posts[:1], posts[::-1], posts[1:] + posts[:1], None, True, 0, "abcd", (), {}, posts[:0], (posts,)]
    for place in range(4):
        x, y = posts[place]
        for point in ((x, (y[0] + 1, y[1])), (y, x), (x,), (x, y, y), None, 0, "12", True, ((2 * x[0], 2 * x[1]), y),
                      ((-x[0], -x[1]), y)) + tuple((bad, y) for bad in NO_NUMBERS):
            if point != posts[place]:
                bent.append(posts[:place] + (point,) + posts[place + 1:])
        if x[1] == 1:
            bent.append(posts[:place] + ((x[0], y),) + posts[place + 1:])
            bent.append(posts[:place] + (((x[0], True), y),) + posts[place + 1:])
            bent.append(posts[:place] + (((float(x[0]), 1), y),) + posts[place + 1:])
    return bent


def bent_values(value):
    """Values unlike a tuple of tuples, integers, strings, True and False: bent in one part, at any depth."""
    if isinstance(value, bool):
        return [not value, int(value), None, str(value)]
    if isinstance(value, int):
        other = [value + 1, -value - 1, float(value), str(value), None, (value,), (value, 1)]
        return other + ([bool(value)] if value in (0, 1) else [])
    if isinstance(value, str):
        return ["", value + " ", value.upper(), value.encode(), None, 0, True, (value,)]
    bent = [value + value[:1], value + (0,), None, 0, True, "", (value,)] + ([value[1:], value[:-1]] if value else [])
    if value[::-1] != value:
        bent.append(value[::-1])
    for place, part in enumerate(value):
        bent.extend(value[:place] + (other,) + value[place + 1:] for other in bent_values(part))
    return bent
