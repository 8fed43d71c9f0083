"""Strangers: programs of one class, or of a class and one below it, which bring later code into each position."""


class Cast:
    """Names for the later classes and packages of programs that several libraries of one shape judge."""

    def __init__(self, libraries):
        self._classes = libraries[0].classes
        self._known = {}
        for library in libraries:
            for package in library.package_names():
                self._known[package] = True
        self.first, self.second, self.third = _fresh("later", self._classes, 3)
        self.far, self.farther = _fresh("far", self._known, 2)

    def lone_rows(self):
        """A list of the rows that add a class with at most one base, in any known package or in a far one."""
        all_bases = [()] + [(name,) for name in self._classes]
        return [class_row(self.first, package, bases) for package in self._tried_packages() for bases in all_bases]

    def twin_rows(self, lone_rows):
        """A list of pairs: for each base, the first row that has it, with each row of a class below that one."""
        leading = {}
        for row in lone_rows:
            if base_of([row]) is not None:
                leading.setdefault(base_of([row]), row)
        return [
            [row, class_row(self.second, package, (self.first,))]
            for row in leading.values() for package in self._tried_packages()
        ]

    def away_from(self, package):
        """A package other than the given one, which no library has."""
        return self.farther if package == self.far else self.far

    def _tried_packages(self):
        return list(self._known) + [self.far]


def class_row(name, package, bases, inside=None, bodies=()):
    """The row that adds a later class."""
    return ("class", name, package, inside, bases, bodies)


def with_body(rows, method, level):
    """The rows with a body in the class that the last one adds."""
    name, package, inside, bases = rows[-1][1:5]
    return rows[:-1] + [class_row(name, package, bases, inside, ((method, level),))]


def base_of(rows):
    """The class of the library that a stranger's classes have above them, or None."""
    bases = rows[0][4]
    return bases[0] if len(bases) > 0 else None


def namings_of(library, rows):
    """A list of namings (place, way, name, through) by a stranger's last class, two at most for each mark.

    Through the owner of the mark or, where it has the owner's declaration, through the stranger itself: what
    is let through any other class is let through one of these.
    """
    place, base = rows[-1][1], base_of(rows)
    found = []
    for owner, name, way in library.marks:
        found.append((place, way, name, owner))
        if base is not None and library.owner_of(base, name) == owner:
            found.append((place, way, name, place))
    return found


def _fresh(stem, taken, many):
    """Names that are not taken."""
    found = []
    at = 0
    while len(found) < many:
        if f"{stem}{at}" not in taken:
            found.append(f"{stem}{at}")
        at += 1
    return found
