"""Scenes: libraries with the later classes of a program, row by row."""

from whomayname.errors import Joined, Misfit, Narrow, Sealed, Taken, Unknown, bar
from whomayname.library import MAKER
from whomayname.namings import concern_of, event_of, events_from, sight_of


class Scene:
    """A library with the later classes and the acts of the rows that it took."""

    def __init__(self, library, book):
        # The library becomes the scene's own: later classes are added to it.
        self._library = library
        self._book = book
        self._later = {}
        self._acts = []

    def take(self, rows):
        """Take rows in order. Raise the first error; the scene is of no use then."""
        for at, row in enumerate(rows):
            if row[0] == "class":
                self._take_class(at, row)
            else:
                self._take_act(at, row)

    def lets(self, place, way, name, through):
        """Whether a naming by a class is let."""
        mark, stance = concern_of(self._library, place, way, name, through)
        return self._is_let(mark, stance)

    def bodies_for(self, place):
        """A list of the bodies (method, level) that a class without bodies could have."""
        found = []
        for owner, name, kind in self._library.declarations():
            mark = self._mark_above(place, name)
            if kind == "method" and mark[0] == owner and self._sees(place, mark):
                found.extend([(name, level) for level in self._book if self._is_wide(mark, level)])
        return found

    def events(self):
        """A list of the events of all acts taken."""
        found = {}
        for act in self._acts:
            for event in events_from(self._library, act):
                if event[1] not in self._later:
                    found[event] = True
        return list(found)

    def _take_class(self, at, row):
        _, name, package, inside, bases, bodies = row
        self._check_names(at, name, inside, bases)
        if self._library.is_sealed(package):
            raise Sealed(package, at)
        joined = self._library.first_joined(bases)
        if joined is not None:
            raise Joined(joined, at)
        self._library.add_later(name, package=package, inside=inside, bases=bases)
        self._later[name] = True
        for base in bases:
            self._check_seen(at, name, (base, MAKER, "make"))
        for method, level in bodies:
            self._take_body(at, name, method, level)

    def _check_names(self, at, name, inside, bases):
        if self._library.knows(name):
            raise Taken(name, at)
        if inside is not None and inside not in self._later:
            raise Unknown(inside, at)
        unknown = self._library.first_unknown(bases)
        if unknown is not None:
            raise Unknown(unknown, at)

    def _take_body(self, at, name, method, level):
        if level not in self._book:
            raise Unknown(level, at)
        mark = self._mark_above(name, method)
        if self._library.declares(name, method) or self._library.kind_of(mark[0], method) != "method":
            raise Misfit(method, at)
        self._check_seen(at, name, mark)
        if not self._is_wide(mark, level):
            raise Narrow(mark, at)
        self._library.add_member(name, method, kind="method", level=level)

    def _take_act(self, at, row):
        _, place, way, name, through, target = row
        if place not in self._later:
            raise Unknown(place, at)
        unknown = self._library.first_unknown([through] if target is None else [through, target])
        if unknown is not None:
            raise Unknown(unknown, at)
        if not self._library.is_naming(place, way, name, through):
            raise Misfit(name, at)
        if not self._fits(place, way, name, through, target):
            raise Misfit(name, at)
        mark, stance = concern_of(self._library, place, way, name, through)
        self._check_let(at, mark, stance)
        self._acts.append(event_of(self._library, way, name, through, target))

    def _fits(self, place, way, name, through, target):
        if not self._library.is_on_object(way, name):
            return target is None
        upper = place if way == "elder" else through
        return target is not None and self._library.is_below(target, upper)

    def _check_seen(self, at, place, mark):
        mark, stance = sight_of(self._library, place, mark)
        self._check_let(at, mark, stance)

    def _check_let(self, at, mark, stance):
        if not self._is_let(mark, stance):
            bar(mark, self._library.level_of(mark), stance, at)

    def _sees(self, place, mark):
        mark, stance = sight_of(self._library, place, mark)
        return self._is_let(mark, stance)

    def _is_let(self, mark, stance):
        # The maker of a later class has no level and is always let.
        return not self._library.has_level(mark) or stance in self._rule_of(mark)

    def _is_wide(self, mark, level):
        return self._rule_of(mark) <= self._book[level]

    def _rule_of(self, mark):
        return self._book[self._library.level_of(mark)]

    def _mark_above(self, place, name):
        """The mark of the declaration that a base has, with None for its class if no base has one."""
        return (self._library.owner_above(place, name), name, "call")
