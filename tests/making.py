"""Houses made of plans (see tests.plain), and plans by chance."""

from whomayname.houses import House
from whomayname.library import Library
from whomayname.rules import Book, Rule


USUAL = (("private", "nested|around"), ("package", "package"), ("protected", "package|below"), ("public", "any"))


def plan_of(classes=(), members=(), uses=(), packages=(("p", False), ("q", False)), book=USUAL):
    return {"packages": list(packages), "classes": list(classes), "members": list(members),
            "uses": list(uses), "book": list(book)}


def c(name, bases="", package="p", inside=None, maker="public"):
    """A class of a plan; the letters of bases are the names of its bases."""
    return name, package if inside is None else None, inside, tuple(bases), maker


def m(owner, name, level="public", kind=None, write=None):
    """A member of a plan; fields have names in f, statics in s, methods others, unless a kind is given."""
    return owner, name, kind or {"f": "field", "s": "static"}.get(name[0], "method"), level, write


def use(place, way, name, through, body=None):
    """A use of a plan."""
    return place, way, name, through, body


def row(name, bases="", package="p", inside=None, bodies=()):
    """A class row; the letters of bases are the names of its bases."""
    return "class", name, package if inside is None else None, inside, tuple(bases), tuple(bodies)


def act(place, way, name, through, target):
    """An act row."""
    return "act", place, way, name, through, target


def rule_of(text):
    """The rule of a text, made by the operators of Rule."""
    whole = Rule.of()
    for part in text.replace(" ", "").split("|"):
        if part != "-":
            one = Rule.of("any")
            for word in part.split("&"):
                one = one & Rule.of(word)
            whole = whole | one
    return whole


def book_of(pairs):
    return Book([(level, rule_of(text)) for level, text in pairs])


def library_of(plan):
    library = Library()
    for name, sealed in plan["packages"]:
        library.add_package(name, sealed=sealed)
    for name, package, inside, bases, maker in plan["classes"]:
        library.add_class(name, maker=maker, package=package, inside=inside, bases=bases)
    for owner, name, kind, level, write in plan["members"]:
        library.add_member(owner, name, kind=kind, level=level, write=write)
    for place, way, name, through, body in plan["uses"]:
        library.add_use(place, way, name, through, body=body)
    return library


def house_of(plan):
    return House(library_of(plan), book_of(plan["book"]))


RULES = (
    "-", "own", "nested", "around", "nested|around", "below", "heir", "package", "any", "package|below",
    "package|heir", "below&package", "heir&package", "around|below", "nested|package", "package&below|own",
)


class Chance:
    """Plans and programs by chance, within some limits."""

    def __init__(self, source, packages=4, classes=5, members=8, uses=12, levels=6):
        self.source = source
        self.most = {"packages": packages, "classes": classes, "members": members, "uses": uses, "levels": levels}

    def many(self, what, least=0):
        return self.source.randint(min(least, self.most[what]), self.most[what])

    def plan(self, full=False):
        source = self.source
        count = (lambda what, least=0: self.most[what]) if full else self.many
        book = [(f"l{at}", source.choice(RULES)) for at in range(count("levels", 1))]
        if source.random() < 0.5:
            book[-1] = (book[-1][0], source.choice(("any", "any", "package|below", "heir")))
        plan = {"book": book, "members": [], "uses": [], "classes": []}
        plan["packages"] = [(f"p{at}", source.random() < 0.3) for at in range(count("packages", 1))]
        for at in range(count("classes")):
            self.add_class(plan, f"c{at}")
        for _ in range(count("members")):
            self.add_member(plan)
        for _ in range(count("uses")):
            self.add_use(plan)
        return plan

    def level(self, plan):
        levels = [level for level, _ in plan["book"]]
        return self.source.choice(levels + levels[-1:] * 2)

    def add_class(self, plan, name):
        source = self.source
        earlier = [row[0] for row in plan["classes"]]
        inside = source.choice(earlier) if earlier and source.random() < 0.3 else None
        package = source.choice(plan["packages"])[0] if inside is None else None
        for _ in range(4):
            bases = tuple(source.sample(earlier, min(len(earlier), source.choice((0, 1, 1, 1, 2, 3)))))
            row = (name, package, inside, bases, self.level(plan))
            if self.is_fine(plan, "classes", row):
                return

    def add_member(self, plan):
        source = self.source
        owners = [row[0] for row in plan["classes"]]
        for _ in range(12):
            if not owners:
                return
            name = source.choice(("m", "n", "k", "f", "s"))
            kind = {"f": "field", "s": "static"}.get(name, "method")
            methods = [row[1] for row in plan["members"] if row[2] == "method"]
            if methods and source.random() < 0.4:
                name, kind = source.choice(methods), "method"
            elif source.random() < 0.2:
                name += "2"
            write = self.level(plan) if kind == "field" and source.random() < 0.7 else None
            if self.is_fine(plan, "members", (source.choice(owners), name, kind, self.level(plan), write)):
                return

    def add_use(self, plan):
        source = self.source
        names = [row[0] for row in plan["classes"]]
        declared = [row[:2] for row in plan["members"]]
        for _ in range(40):
            if not names:
                return
            place = source.choice(names)
            way = source.choice(("read", "write", "call", "call", "call", "make", "elder"))
            name = "new" if way == "make" or not declared else source.choice(declared)[1]
            body = source.choice([member for owner, member in declared if owner == place] + [None])
            through = place if source.random() < 0.5 else source.choice(names)
            if self.is_fine(plan, "uses", (place, way, name, through, body)):
                return

    def is_fine(self, plan, key, row):
        plan[key].append(row)
        try:
            library_of(plan)
        except ValueError:
            plan[key].pop()
            return False
        return True

    def program(self, plan, rows=8):
        """Some rows, most of them of a form that may be accepted."""
        source = self.source
        given = [row[0] for row in plan["classes"]]
        found, later = [], []
        for at in range(source.randint(1, rows)):
            if not later or source.random() < 0.5:
                found.append(self.class_row(plan, at, given, later))
                later.append(found[-1][1])
            else:
                found.append(self.act_row(plan, given, later))
        return found

    def class_row(self, plan, at, given, later):
        source = self.source
        name = source.choice([f"x{at}"] * 12 + given[:1] + later[:1])
        inside = source.choice([None] * 3 + later + given[:1]) if source.random() < 0.5 else None
        packages = [package for package, _ in plan["packages"]] + ["far", "farther"]
        package = source.choice(packages) if inside is None else None
        known = given + later * 2 + ["zz"] * (source.random() < 0.1)
        bases = tuple(source.choice(known) for _ in range(source.choice((0, 1, 1, 1, 2)))) if known else ()
        methods = [name for _, name, kind, _, _ in plan["members"] if kind == "method" or source.random() < 0.1]
        levels = [level for level, _ in plan["book"]] + ["zz"] * (source.random() < 0.1)
        many = source.choice((0, 0, 1, 1, 2)) if methods else 0
        bodies = tuple((source.choice(methods), source.choice(levels)) for _ in range(many))
        return "class", name, package, inside, bases, bodies

    def act_row(self, plan, given, later):
        source = self.source
        members = [row[1:3] for row in plan["members"]] + [("new", "maker")]
        name, kind = source.choice(members)
        ways = {"field": ("read", "write"), "method": ("call", "elder"), "static": ("call",), "maker": ("make",)}
        way = source.choice(ways[kind]) if source.random() < 0.95 else source.choice(("read", "call", "make", "elder"))
        known = given + later * 2
        through = source.choice(known)
        target = None if kind in ("static", "maker") else source.choice([through] * 3 + known + later)
        place = source.choice(later * 8 + given + ["zz"])
        return "act", place, way, name, through, target
