"""What films are told to be, worked out slowly and in another way: by the vertices of all rows of posts and moments."""

import itertools
from fractions import Fraction

from tests.shapes import cross, dot, minus, on_side
from tests.values import fraction, fractions_of, pair


def solved(rows, many):
    """The base and the ways of all solutions of linear equations, or None."""
    rows = [list(row) for row in rows]
    columns = []
    for column in range(many):
        done = len(columns)
        lead = next((k for k in range(done, len(rows)) if rows[k][column] != 0), None)
        if lead is None:
            continue
        rows[done], rows[lead] = rows[lead], rows[done]
        rows[done] = [value / rows[done][column] for value in rows[done]]
        for k in range(len(rows)):
            if k != done:
                rows[k] = [value - rows[k][column] * part for value, part in zip(rows[k], rows[done])]
        columns.append(column)
    if any(row[many] != 0 for row in rows[len(columns):]):
        return None
    base = [Fraction(0)] * many
    for k, column in enumerate(columns):
        base[column] = rows[k][many]
    ways = []
    for free in sorted(set(range(many)) - set(columns)):
        way = [Fraction(0)] * many
        way[free] = Fraction(1)
        for k, column in enumerate(columns):
            way[column] = -rows[k][free]
        ways.append(way)
    return base, ways


def vertices(rules, base, ways):
    """All vertices of what base and ways tell, where no rule (factors, constant) is below 0."""
    told = [([sum(a * b for a, b in zip(factors, way)) for way in ways], sum(a * b for a, b in zip(factors, base)) + rest)
            for factors, rest in rules]
    found = []
    for chosen in itertools.combinations(told, len(ways)):
        point = solved([factors + [-rest] for factors, rest in chosen], len(ways))
        if point is None or point[1]:
            continue
        if all(sum(a * b for a, b in zip(factors, point[0])) + rest >= 0 for factors, rest in told):
            place = tuple(b + sum(z * way[k] for z, way in zip(point[0], ways)) for k, b in enumerate(base))
            if place not in found:
                found.append(place)
    return found


def unit(place, many, value=1):
    return [Fraction(value if k == place else 0) for k in range(many)]


def is_next(film, one, other):
    return one[0] == other[0] and (one[1] - other[1]) % len(film.first[one[0]]) in (1, len(film.first[one[0]]) - 1)


class SlowFilm:
    """A film with Python's own fractions: its sides are (start at 0, start at 1, direction, length at 0, length at 1)."""

    def __init__(self, film, ratio=1):
        self.ratio = fraction(ratio)
        self.film = film
        self.names = [(fence, k) for fence, row in enumerate(film.first) for k in range(len(row))]
        self.sides = {at: self.told(at) for at in self.names}

    def told(self, at):
        fence, k = at
        ends = []
        for rows in (self.film.first, self.film.last):
            ends.append([fractions_of(rows[fence][number % len(rows[fence])]) for number in (k, k + 1)])
        ways = [minus(end, start) for start, end in ends]
        way = (ways[0][0] + ways[1][0], ways[0][1] + ways[1][1])
        return (ends[0][0], ends[1][0], way, dot(ways[0], way) / dot(way, way), dot(ways[1], way) / dot(way, way))

    def corners(self, moment):
        return {(p[0] + moment * (q[0] - p[0]), p[1] + moment * (q[1] - p[1]))
                for p, q, way, length, last in self.sides.values()}

    def side(self, at, moment):
        start, last, way, length, last_length = self.sides[at]
        here = tuple(p + moment * (q - p) for p, q in zip(start, last))
        far = length + moment * (last_length - length)
        return (here, (here[0] + far * way[0], here[1] + far * way[1]))

    def determinant(self, four):
        a, b, c, d = [self.sides[at][2] for at in four]
        r = self.ratio
        return -r * r * dot(a, c) * dot(b, d) - (cross(b, c) - r * dot(b, c)) * (cross(a, d) + r * dot(a, d))

    def rules(self, four):
        """Each post is on its side, and the moment from 0 to 1."""
        many = len(four) + 1
        rules = [(unit(many - 1, many), Fraction(0)), (unit(many - 1, many, -1), Fraction(1))]
        for k, at in enumerate(four):
            length, last = self.sides[at][3:]
            rules.append((unit(k, many), Fraction(0)))
            rest = unit(k, many, -1)
            rest[-1] = last - length
            rules.append((rest, length))
        return rules

    def post(self, four, k, axis):
        """A coordinate of a post as factors of the places of all posts and of the moment, and a constant behind them."""
        start, last, way = self.sides[four[k]][:3]
        factors = unit(k, len(four) + 1, way[axis])
        factors[-1] = last[axis] - start[axis]
        return factors + [start[axis]]

    def equation(self, parts):
        """The equation that a sum of coordinates, each with its factor, is 0."""
        row = [sum(values) for values in zip(*[[factor * value for value in told] for factor, told in parts])]
        return row[:-1] + [-row[-1]]

    def found(self, four):
        """The vertices of all posts on the four at all moments: four places and a moment each."""
        x, y = [[self.post(four, k, axis) for k in range(4)] for axis in (0, 1)]
        r = self.ratio
        rows = [self.equation([(1, x[3]), (-1, x[0]), (r, y[1]), (-r, y[0])]),
                self.equation([(1, y[3]), (-1, y[0]), (-r, x[1]), (r, x[0])]),
                self.equation([(1, x[2]), (-1, x[1]), (-1, x[3]), (1, x[0])]),
                self.equation([(1, y[2]), (-1, y[1]), (-1, y[3]), (1, y[0])])]
        rows = solved(rows, 5)
        return vertices(self.rules(four), *rows) if rows else []

    def posts(self, four, place):
        """The posts at such a place; None if they are one point."""
        posts = []
        for at, far in zip(four, place):
            start, last, way = self.sides[at][:3]
            posts.append(tuple(p + place[4] * (q - p) + far * d for p, q, d in zip(start, last, way)))
        return tuple(posts) if posts[0] != posts[1] else None

    def is_jam(self, four, place):
        """Whether there is a right Jammed of the posts at such a place, as on this four."""
        posts = self.posts(four, place)
        if posts is None:
            return False
        corners = sum(post in self.corners(place[4]) for post in posts)
        if place[4] in (0, 1):
            return corners > 0
        return corners > 1 or self.determinant(four) == 0

    def lives(self):
        """For each reading of each life (birth, death, born, dead, sign); or a (moment, posts) of a right Jammed."""
        lives = {}
        for four in itertools.product(self.names, repeat=4):
            found = self.found(four)
            if not found:
                continue
            middle = tuple(sum(parts) / len(found) for parts in zip(*found))
            for place in found + [middle]:
                if self.is_jam(four, place):
                    return (place[4], self.posts(four, place))
            if self.determinant(four) != 0 and len(found) == 2:
                born, dead = sorted(found, key=lambda place: place[4])
                ends = [self.ends(four, place) for place in (born, dead)]
                if any(len(set(posts)) > 1 for posts in ends):
                    lives[four] = (born[4], dead[4], *ends, 1 if self.determinant(four) > 0 else -1)
        return lives

    def ends(self, four, place):
        return self.posts(four, place) or (self.posts_at_point(four, place),) * 4

    def posts_at_point(self, four, place):
        start, last, way = self.sides[four[0]][:3]
        return tuple(p + place[4] * (q - p) + place[0] * d for p, q, d in zip(start, last, way))

    def touches(self):
        """For each two sides that touch (one, other, an inner moment, a point)."""
        told = []
        for one, other in itertools.combinations(self.names, 2):
            touch = self.neighbours_touch(one, other) if is_next(self.film, one, other) else self.touch(one, other)
            if touch is not None:
                told.append((one, other, *touch))
        return told

    def touch(self, one, other):
        rows = solved([self.equation([(1, self.post((one, other), 0, axis)), (-1, self.post((one, other), 1, axis))])
                       for axis in (0, 1)], 3)
        found = vertices(self.rules((one, other)), *rows) if rows else []
        if not found:
            return None
        middle = [sum(parts) / len(found) for parts in zip(*found)]
        if middle[2] in (0, 1):
            return None
        start, last, way = self.sides[one][:3]
        return middle[2], tuple(p + middle[2] * (q - p) + middle[0] * d for p, q, d in zip(start, last, way))

    def neighbours_touch(self, one, other):
        moment = Fraction(1, 3)
        side, told = self.side(one, moment), self.side(other, moment)
        corner = told[0] if other[1] == one[1] + 1 else side[0]
        for ends, rest in ((side, told), (told, side)):
            end = ends[0] if ends[1] == corner else ends[1]
            if on_side(end, rest):
                return moment, tuple((p + q) / 2 for p, q in zip(end, corner))
        return None


def pairs_of(points):
    """Points of fractions as the program tells them."""
    return tuple(tuple(pair(part) for part in point) for point in points)
