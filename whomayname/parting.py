"""Parting: the shortest programs that one house accepts and another refuses, and the moves without any."""

from whomayname.errors import Unlike
from whomayname.strangers import Cast, class_row, namings_of, with_body


def first_break(house, other):
    """A shortest program that house accepts and other refuses, or None. Raise Unlike(None)."""
    if _shape_of(house.library()) != _shape_of(other.library()):
        raise Unlike(None)
    return Search(house, other).shortest()


def parting(house, other):
    """A shortest program that only one of two houses accepts, or None. Raise Unlike(None)."""
    one, two = first_break(house, other), first_break(other, house)
    if one is None or two is None:
        return two if one is None else one
    return one if len(one) <= len(two) else two


def safe_moves(house):
    """A list of the moves (class, package) that lose no let use and no accepted program."""
    library = house.library()
    return [
        (name, package)
        for name in library.classes if library.outer_of(name) is None
        for package in library.package_names() if package != library.package_of(name)
        if _is_safe(house, house.moved(name, package))
    ]


class Side:
    """A stranger that both houses accept, as it stands in each of them."""

    def __init__(self, rows, house, other):
        self.rows = rows
        self.here = house.scene(rows)
        self.there = other.scene(rows)
        # What the first house accepts as a body of the last class.
        self.bodies = self.here.bodies_for(rows[-1][1])

    def lost_bodies(self):
        """A list of the bodies that only the first house accepts."""
        kept = {body: True for body in self.there.bodies_for(self.rows[-1][1])}
        return [body for body in self.bodies if body not in kept]


class Search:
    """The search for a shortest break.

    Both houses accept all rows of a shortest break but the last, and acts change nothing for the rows behind
    them. So it is a few classes, then one row. What counts of a class is its package and what it is below: the
    few are a stranger, whose last class may have a body, or also a class that names the new declaration.
    """

    def __init__(self, house, other):
        self._house = house
        self._other = other
        self._library = house.library()
        self._cast = Cast([self._library, other.library()])

    def shortest(self):
        """A shortest break, or None."""
        lone = [row for row in self._cast.lone_rows() if self._house.accepts([row])]
        for row in lone:
            if not self._other.accepts([row]):
                return [row]
        twins = [rows for rows in self._cast.twin_rows(lone) if self._house.accepts(rows)]
        once, twice = self._sides([[row] for row in lone]), self._sides(twins)
        # From one row to four. Each step may rely on it that the steps before it found nothing.
        return (
            self._by_body(once)
            or self._by_body(twice) or self._by_act(once) or self._by_heir(once)
            or self._by_act(twice) or self._by_heir(twice) or self._by_first(twice) or self._by_caller(once)
            or self._by_caller(twice)
        )

    def _sides(self, strangers):
        return [Side(rows, self._house, self._other) for rows in strangers]

    def _by_body(self, sides):
        """A break whose last row adds a stranger's last class with a body."""
        for side in sides:
            for method, level in side.lost_bodies():
                return with_body(side.rows, method, level)
        return None

    def _by_act(self, sides):
        """A break of a stranger and an act."""
        for side in sides:
            for naming in namings_of(self._library, side.rows):
                if side.here.lets(*naming) and not side.there.lets(*naming):
                    return side.rows + [self._act_of(naming)]
        return None

    def _act_of(self, naming):
        """An act of a naming, on an object of the class through where it needs one."""
        _, way, name, through = naming
        return ("act", *naming, through if self._library.is_on_object(way, name) else None)

    def _by_heir(self, sides):
        """A break whose last row declares again what a body of a stranger declared."""
        for rows in self._with_bodies(sides):
            place, package, bodies = rows[-1][1], rows[-1][2], rows[-1][5]
            for its_package in (package, self._cast.away_from(package)):
                for level in self._house.book:
                    body = (bodies[0][0], level)
                    row = class_row(self._cast.third, its_package, (place,), None, (body,))
                    if self._is_break(rows + [row]):
                        return rows + [row]
        return None

    def _by_first(self, sides):
        """A break whose last row calls what a body of a stranger declared, from the stranger's first class."""
        # The first class lies in another package, or the last one would not have needed it.
        for rows in self._with_bodies(sides):
            act = _call_of_body(rows[0][1], rows)
            if self._is_break(rows + [act]):
                return rows + [act]
        return None

    def _by_caller(self, sides):
        """A break whose last row calls what a body of a stranger declared, from one more class."""
        for rows in self._with_bodies(sides):
            act = _call_of_body(self._cast.third, rows)
            for program in self._with_caller(rows):
                if self._is_break(program + [act]):
                    return program + [act]
        return None

    def _with_bodies(self, sides):
        """A list that has, for each level, a stranger with a body of this level that both houses accept."""
        found = {}
        for side in sides:
            for method, level in side.bodies:
                if level not in found:
                    found[level] = with_body(side.rows, method, level)
        return list(found.values())

    def _with_caller(self, rows):
        """The programs that add to a stranger a class after its last one, or around it."""
        place, package, _, bases, bodies = rows[-1][1:]
        third = self._cast.third
        after = [
            rows + [class_row(third, its_package, its_bases)]
            for its_package in (package, self._cast.away_from(package)) for its_bases in ((), (place,))
        ]
        around = [class_row(third, package, ()), class_row(place, None, bases, third, bodies)]
        return after + [rows[:-1] + around]

    def _is_break(self, rows):
        return self._house.accepts(rows) and not self._other.accepts(rows)


def _call_of_body(caller, rows):
    """The act by which a class calls what the body of a stranger's last class declared."""
    place, bodies = rows[-1][1], rows[-1][5]
    return ("act", caller, "call", bodies[0][0], place, place)


def _shape_of(library):
    """What alike houses have in common."""
    classes = [(name, library.outer_of(name), library.bases_of(name)) for name in library.classes]
    return classes, library.declarations()


def _is_safe(house, moved):
    broken = house.broken()
    if not all([use in broken for use in moved.broken()]):
        return False
    return first_break(house, moved) is None
