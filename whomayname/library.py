"""Libraries: packages, classes, their members with levels, and their uses of these members."""

from whomayname.errors import Joined, Misfit, Taken, Unknown

MAKER = "new"


class Packages:
    """Packages by name, each sealed or not."""

    def __init__(self):
        self._sealed = {}

    def add_package(self, name, *, sealed=False):
        """Add a package. Raise Taken(name)."""
        if name in self._sealed:
            raise Taken(name)
        self._sealed[name] = sealed

    def is_sealed(self, name):
        """Whether there is a sealed package of this name."""
        return self._sealed.get(name, False)


class Lineage:
    """Classes in the order in which they came, their nesting and their bases."""

    def __init__(self):
        self._outer = {}
        self._bases = {}
        # For each class, itself and all that it is below, so that no question has to climb.
        self._lines = {}

    def link(self, name, *, inside=None, bases=()):
        """Add a class. Raise Taken(name), Unknown(inside), Unknown(base), Joined(base)."""
        bases = tuple(bases)
        self._check_name(name, inside)
        self._check_bases(bases)
        line = {name: True}
        for base in bases:
            line.update(self._lines[base])
        self._outer[name] = inside
        self._bases[name] = bases
        self._lines[name] = line

    def is_below(self, lower, upper):
        """Whether lower is upper or below it."""
        return lower == upper or upper in self._lines.get(lower, ())

    @property
    def classes(self):
        """A list of the classes in order."""
        return list(self._lines)

    def bases_of(self, name):
        """The tuple of the bases of a class."""
        return self._bases[name]

    def outer_of(self, name):
        """The class directly around a class, or None."""
        return self._outer[name]

    def _check_known(self, name):
        if name not in self._lines:
            raise Unknown(name)

    def _check_name(self, name, inside):
        if name in self._lines:
            raise Taken(name)
        if inside is not None:
            self._check_known(inside)

    def _check_bases(self, bases):
        for base in bases:
            self._check_known(base)
        covered = {}
        for base in bases:
            line = self._lines[base]
            if any([upper in covered for upper in line]):
                raise Joined(base)
            covered.update(line)


class Library(Packages, Lineage):
    """Packages and classes, with the members that the classes declare and the uses of them."""

    def __init__(self):
        Packages.__init__(self)
        Lineage.__init__(self)
        self._packages = {}
        self._roots = {}
        self._kinds = {}
        self._levels = {}
        self._uses = {}

    def add_class(self, name, *, maker, package=None, inside=None, bases=()):
        """Add a class as link does, but raise Unknown(package) before the bases are looked at."""
        self._check_name(name, inside)
        if inside is None and package not in self._sealed:
            raise Unknown(package)
        self.link(name, inside=inside, bases=bases)
        self._packages[name] = package if inside is None else self.package_of(inside)
        self._levels[(name, MAKER, "make")] = maker

    def add_member(self, owner, name, *, kind, level, write=None):
        """Declare a member. Raise Unknown(owner), Taken(name), Misfit(name)."""
        self._check_known(owner)
        if (owner, name) in self._kinds:
            raise Taken(name)
        if not self._may_declare(owner, name, kind):
            raise Misfit(name)
        self._kinds[(owner, name)] = kind
        self._roots.setdefault(name, owner)
        if kind == "field":
            self._levels[(owner, name, "read")] = level
            self._levels[(owner, name, "write")] = level if write is None else write
        else:
            self._levels[(owner, name, "call")] = level

    def add_use(self, place, way, name, through, *, body=None):
        """Add a use, once. Raise Unknown(place), Unknown(through), Misfit(name)."""
        self._check_known(place)
        self._check_known(through)
        if not self._is_naming(place, way, name, through):
            raise Misfit(name)
        if body is not None and not self._may_stand_in(body, place, way, name, through):
            raise Misfit(name)
        self._uses[(place, way, name, through, body)] = True

    def owner_of(self, through, name):
        """The class whose declaration of the name through has, or None."""
        root = self._roots.get(name)
        if root is None or not self.is_below(through, root):
            return None
        owner = through
        while (owner, name) not in self._kinds:
            owner = self._base_towards(owner, root)
        return owner

    def level_of(self, mark):
        """The level of a mark. Raise Unknown(mark)."""
        if mark not in self._levels:
            raise Unknown(mark)
        return self._levels[mark]

    @property
    def marks(self):
        """A list of the marks (class, name, way)."""
        return list(self._levels)

    @property
    def uses(self):
        """A list of the added uses (place, way, name, through, body)."""
        return list(self._uses)

    def package_of(self, name):
        """The package in which a class lies, or None if it was linked without one."""
        return self._packages.get(name)

    def _may_declare(self, owner, name, kind):
        if name == MAKER:
            return False
        if name not in self._roots:
            return True
        root = self._roots[name]
        return kind == "method" and self._kinds[(root, name)] == "method" and self.is_below(owner, root)

    def _base_towards(self, lower, upper):
        # No class stands above two bases, so at most one base leads to upper.
        for base in self.bases_of(lower):
            if self.is_below(base, upper):
                return base
        return None

    def _kind_of(self, through, name):
        owner = self.owner_of(through, name)
        return None if owner is None else self._kinds[(owner, name)]

    def _is_naming(self, place, way, name, through):
        kind = self._kind_of(through, name)
        if way in ("read", "write"):
            return kind == "field"
        if way == "call":
            return kind in ("method", "static")
        if way == "make":
            return (through, name, way) in self._levels
        return way == "elder" and kind == "method" and through in self.bases_of(place)

    def _may_stand_in(self, body, place, way, name, through):
        """Whether a naming may stand in a body that place itself declares."""
        free = way == "make" or self._kind_of(through, name) == "static"
        kind = self._kinds.get((place, body))
        if kind == "static":
            return free
        # What is not free concerns the object that the method runs on, which is one of place.
        return kind == "method" and (free or way == "elder" or through == place)
