"""Rules, which let some of the nine stances, and books, which give each level a rule."""

from whomayname.errors import Taken, Unknown

STANCES = (
    ("own", "nested", "around", "below", "heir", "package", "any"),
    ("nested", "below", "heir", "package", "any"),
    ("around", "package", "any"),
    ("below", "heir", "package", "any"),
    ("below", "heir", "any"),
    ("heir", "package", "any"),
    ("heir", "any"),
    ("package", "any"),
    ("any",),
)


class Rule:
    """Some of the nine stances: those that the rule lets."""

    def __init__(self, stances):
        self._let = tuple(stances)

    @classmethod
    def of(cls, *words):
        """The rule that lets each stance with at least one of the words."""
        let = [stance for stance in STANCES if _has_one_of(stance, words)]
        return cls(let)

    @property
    def stances(self):
        """The stances that the rule lets, in the order of STANCES."""
        return self._let

    def __and__(self, other):
        return Rule([stance for stance in STANCES if stance in self._let and stance in other._let])

    def __or__(self, other):
        return Rule([stance for stance in STANCES if stance in self._let or stance in other._let])

    def __le__(self, other):
        return all([stance in other._let for stance in self._let])

    def __contains__(self, stance):
        return stance in self._let


class Book:
    """Levels in an order, each with a rule."""

    def __init__(self, pairs):
        self._rules = {}
        for level, rule in pairs:
            if level in self._rules:
                raise Taken(level)
            self._rules[level] = rule

    @staticmethod
    def usual():
        """A new book of the four levels that most languages have."""
        return Book([
            ("private", Rule.of("nested") | Rule.of("around")),
            ("package", Rule.of("package")),
            ("protected", Rule.of("package") | Rule.of("below")),
            ("public", Rule.of("any")),
        ])

    @property
    def levels(self):
        """A list of the levels in order."""
        return list(self._rules)

    def __getitem__(self, level):
        if level not in self._rules:
            raise Unknown(level)
        return self._rules[level]

    def __contains__(self, level):
        return level in self._rules

    def __iter__(self):
        return iter(self._rules)

    def __le__(self, other):
        levels = list(self._rules)
        if not all([level in other and self[level] <= other[level] for level in levels]):
            return False
        return all([_keeps_order(self, other, x, y) for x in levels for y in levels])


def _has_one_of(stance, words):
    return any([word in stance for word in words])


def _keeps_order(book, other, x, y):
    """Whether other has x below y where book has it so."""
    return other[x] <= other[y] or not book[x] <= book[y]
