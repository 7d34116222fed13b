"""The lines of a desk: their words, and what these tell."""

from oddsquares.errors import BadLine, BadText
from oddsquares.exact import is_count, parsed_number
from oddsquares.points import parsed_point

MOST_SIGNS = 2000
MOST_COUNT = 9999
# For each first word the kinds of the words behind it, each with the least and the greatest number of such words.
FORMS = {
    "fence": (("point", 3, 40),),
    "drop": (("count", 1, 1),),
    "ratio": (("number", 1, 1),),
    "cut": (("count", 2, 2),),
    "undo": (),
    "show": (),
    "gap": (),
    "ears": (("count", 1, 1),),
    "frames": (),
    "sums": (),
    "square": (),
    "film": (("count", 2, 2),),
    "story": (("count", 2, 41),),
    "near": (("number", 1, 1),),
    "hinges": (("count", 2, 2), ("number", 3, 3)),
    "picture": (("count", 2, 2),),
}


def words_of(line):
    """What stands between the blanks of a line, empty words, too."""
    if not isinstance(line, str) or len(line) > MOST_SIGNS:
        raise BadText("line")
    return tuple(line.split(" "))


def _parsed_count(word):
    """The count of which a word is the text, or None."""
    if not is_count(word) or int(word) > MOST_COUNT:
        return None
    return int(word)


def _parsed(word, kind):
    """The value of which a word is the text, or None."""
    if kind == "point":
        return parsed_point(word)
    if kind == "number":
        return parsed_number(word)
    return _parsed_count(word)


def _values(words, form):
    """What the words tell, the first one being that of the form."""
    kinds = [kind for kind, _, most in form for _ in range(most)]
    values = [words[0]]
    for number, word in enumerate(words[1:], 1):
        value = _parsed(word, kinds[number - 1]) if number <= len(kinds) else None
        if value is None:
            raise BadLine(0, number)
        values.append(value)
    if len(words) <= sum([least for _, least, _ in form]):
        raise BadLine(0, len(words))
    return tuple(values)


def read_line(line):
    """What a line tells: its first word and, behind it, its points, numbers and counts."""
    words = words_of(line)
    if words[0] not in FORMS:
        raise BadLine(0, 0)
    return _values(words, FORMS[words[0]])
