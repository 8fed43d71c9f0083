"""Libraries: packages, classes, their members with levels, and their uses of these members."""

from whomayname.errors import Joined, Misfit, Taken, Unknown

MAKER = "new"


class Packages:
    """Packages by name, each sealed or not."""

    def __init__(self):
        self._sealed = {}

    def add_package(self, name, *, sealed=False):
        """Add a package. Raise Taken(name)."""
        if name in self._sealed:
            raise Taken(name)
        self._sealed[name] = sealed

    def is_sealed(self, name):
        """Whether there is a sealed package of this name."""
        return self._sealed.get(name, False)

    def package_names(self):
        """A list of the packages in order."""
        return list(self._sealed)


class Lineage:
    """Classes in the order in which they came, their nesting and their bases."""

    def __init__(self):
        self._outer = {}
        self._bases = {}
        # For each class, itself and all that it is below, so that no question has to climb.
        self._lines = {}

    def link(self, name, *, inside=None, bases=()):
        """Add a class. Raise Taken(name), Unknown(inside), Unknown(base), Joined(base)."""
        bases = tuple(bases)
        self._check_name(name, inside)
        self._check_bases(bases)
        line = {name: True}
        for base in bases:
            line.update(self._lines[base])
        self._outer[name] = inside
        self._bases[name] = bases
        self._lines[name] = line

    def is_below(self, lower, upper):
        """Whether lower is upper or below it."""
        return lower == upper or upper in self._lines.get(lower, ())

    @property
    def classes(self):
        """A list of the classes in order."""
        return list(self._lines)

    def bases_of(self, name):
        """The tuple of the bases of a class."""
        return self._bases[name]

    def outer_of(self, name):
        """The class directly around a class, or None."""
        return self._outer[name]

    def knows(self, name):
        """Whether there is a class of this name."""
        return name in self._lines

    def around(self, name):
        """A list of a class and all classes around it, from the inside out."""
        found = []
        while name is not None:
            found.append(name)
            name = self._outer[name]
        return found

    def lies_in(self, inner, outer):
        """Whether inner is outer or lies inside it."""
        return outer in self.around(inner)

    def first_unknown(self, names):
        """The first of the names that no class has, or None."""
        for name in names:
            if name not in self._lines:
                return name
        return None

    def first_joined(self, bases):
        """The first base that is, or has above it, a class that an earlier one is or has above it, or None."""
        covered = {}
        for base in bases:
            line = self._lines[base]
            if any([upper in covered for upper in line]):
                return base
            covered.update(line)
        return None

    def _check_known(self, name):
        if name not in self._lines:
            raise Unknown(name)

    def _check_name(self, name, inside):
        if name in self._lines:
            raise Taken(name)
        if inside is not None:
            self._check_known(inside)

    def _check_bases(self, bases):
        unknown = self.first_unknown(bases)
        if unknown is not None:
            raise Unknown(unknown)
        joined = self.first_joined(bases)
        if joined is not None:
            raise Joined(joined)


class Library(Packages, Lineage):
    """Packages and classes, with the members that the classes declare and the uses of them."""

    def __init__(self):
        Packages.__init__(self)
        Lineage.__init__(self)
        self._packages = {}
        self._roots = {}
        self._kinds = {}
        self._levels = {}
        self._uses = {}

    def add_class(self, name, *, maker, package=None, inside=None, bases=()):
        """Add a class as link does, but raise Unknown(package) before the bases are looked at."""
        self._check_name(name, inside)
        if inside is None and package not in self._sealed:
            raise Unknown(package)
        self.add_later(name, package=package, inside=inside, bases=bases)
        self._levels[(name, MAKER, "make")] = maker

    def add_later(self, name, *, package, inside, bases):
        """Add a class whose maker has no level, in any package. Raise as link does."""
        self.link(name, inside=inside, bases=bases)
        self._packages[name] = package if inside is None else self.package_of(inside)

    def add_member(self, owner, name, *, kind, level, write=None):
        """Declare a member. Raise Unknown(owner), Taken(name), Misfit(name)."""
        self._check_known(owner)
        if (owner, name) in self._kinds:
            raise Taken(name)
        if not self._may_declare(owner, name, kind):
            raise Misfit(name)
        self._kinds[(owner, name)] = kind
        self._roots.setdefault(name, owner)
        if kind == "field":
            self._levels[(owner, name, "read")] = level
            self._levels[(owner, name, "write")] = level if write is None else write
        else:
            self._levels[(owner, name, "call")] = level

    def add_use(self, place, way, name, through, *, body=None):
        """Add a use, once. Raise Unknown(place), Unknown(through), Misfit(name)."""
        self._check_known(place)
        self._check_known(through)
        if not self.is_naming(place, way, name, through):
            raise Misfit(name)
        if body is not None and not self._may_stand_in(body, place, way, name, through):
            raise Misfit(name)
        self._uses[(place, way, name, through, body)] = True

    def owner_of(self, through, name):
        """The class whose declaration of the name through has, or None."""
        root = self._roots.get(name)
        if root is None or not self.is_below(through, root):
            return None
        owner = through
        while (owner, name) not in self._kinds:
            owner = self._base_towards(owner, root)
        return owner

    def level_of(self, mark):
        """The level of a mark. Raise Unknown(mark)."""
        if mark not in self._levels:
            raise Unknown(mark)
        return self._levels[mark]

    @property
    def marks(self):
        """A list of the marks (class, name, way)."""
        return list(self._levels)

    @property
    def uses(self):
        """A list of the added uses (place, way, name, through, body)."""
        return list(self._uses)

    def package_of(self, name):
        """The package in which a class lies, or None if it was linked without one."""
        return self._packages.get(name)

    def copied(self):
        """A library of its own that has all that this one has."""
        made = Library()
        made._sealed = dict(self._sealed)
        made._outer = dict(self._outer)
        made._bases = dict(self._bases)
        made._lines = dict(self._lines)
        made._packages = dict(self._packages)
        made._roots = dict(self._roots)
        made._kinds = {key: self._kinds[key] for key in self._kinds}
        made._levels = {mark: self._levels[mark] for mark in self._levels}
        made._uses = {use: True for use in self._uses}
        return made

    def set_level(self, mark, level):
        """Give a mark another level. Raise Unknown(mark)."""
        if mark not in self._levels:
            raise Unknown(mark)
        self._levels[mark] = level

    def has_level(self, mark):
        """Whether a mark has a level: the maker of a later class has none."""
        return mark in self._levels

    def move(self, name, package):
        """Put a class, with the classes inside it, into a package."""
        for inner in self._outer:
            if self.lies_in(inner, name):
                self._packages[inner] = package

    def declarations(self):
        """A list of the declarations (owner, name, kind) in order."""
        return [(owner, name, kind) for (owner, name), kind in self._kinds.items()]

    def root_of(self, name):
        """The class that declared a name first, or None."""
        return self._roots.get(name)

    def declares(self, owner, name):
        """Whether a class itself declares a name."""
        return (owner, name) in self._kinds

    def owner_above(self, lower, name):
        """The class whose declaration of the name a base of lower has, or None."""
        for base in self._bases[lower]:
            owner = self.owner_of(base, name)
            if owner is not None:
                return owner
        return None

    def kind_of(self, through, name):
        """The kind of the member of this name that through has, or None."""
        owner = self.owner_of(through, name)
        return None if owner is None else self._kinds[(owner, name)]

    def is_naming(self, place, way, name, through):
        """Whether known classes place and through, with way and name, make a naming."""
        if way == "make":
            return name == MAKER
        kind = self.kind_of(through, name)
        if way in ("read", "write"):
            return kind == "field"
        if way == "call":
            return kind in ("method", "static")
        return way == "elder" and kind == "method" and through in self._bases[place]

    def is_on_object(self, way, name):
        """Whether namings of a known member concern an object, as those of statics and makers do not."""
        return way != "make" and self._kinds[(self._roots[name], name)] != "static"

    def uses_in(self, owner, body):
        """A list of the uses that stand in a body."""
        return [use for use in self._uses if use[0] == owner and use[4] == body]

    def _may_declare(self, owner, name, kind):
        if name == MAKER:
            return False
        if name not in self._roots:
            return True
        root = self._roots[name]
        return kind == "method" and self._kinds[(root, name)] == "method" and self.is_below(owner, root)

    def _base_towards(self, lower, upper):
        # No class stands above two bases, so at most one base leads to upper.
        for base in self._bases[lower]:
            if self.is_below(base, upper):
                return base
        return None

    def _may_stand_in(self, body, place, way, name, through):
        """Whether a naming may stand in a body that place itself declares."""
        kind = self._kinds.get((place, body))
        if not self.is_on_object(way, name):
            return kind in ("method", "static")
        # The object is the one that the method runs on, which is one of place.
        return kind == "method" and (way == "elder" or through == place)
