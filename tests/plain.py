"""A second, plain reading of the document, without any regard to speed, against which the program is held.

A plan is a dict of lists: packages (name, sealed), classes (name, package, inside, bases, maker),
members (owner, name, kind, level, write), uses (place, way, name, through, body), book (level, rule). The text
of a rule has words joined by & (what all let) and | (what one of them lets); "-" lets nothing.
"""

WORDS = ("own", "nested", "around", "below", "heir", "package", "any")


class Refused(Exception):
    """What a program raises: the name of the error, and its fields."""

    def __init__(self, name, row, what, why=None):
        Exception.__init__(self, name, row, what, why)
        self.told = (name, row, what, why)


class Plain:
    """A house made of a plan, with the later classes of a program if some were added."""

    def __init__(self, plan):
        self.sealed = dict(plan["packages"])
        self.package = {}
        self.inside = {}
        self.bases = {}
        self.later = []
        self.levels = {}
        self.declared = []
        for name, package, inside, bases, maker in plan["classes"]:
            self.package[name], self.inside[name], self.bases[name] = package, inside, tuple(bases)
            self.levels[name, "new", "make"] = maker
        for owner, name, kind, level, write in plan["members"]:
            self.declared.append((owner, name, kind))
            if kind == "field":
                self.levels[owner, name, "read"] = level
                self.levels[owner, name, "write"] = level if write is None else write
            else:
                self.levels[owner, name, "call"] = level
        self.uses = list(dict.fromkeys(plan["uses"]))
        self.rules = {level: let_by(text) for level, text in plan["book"]}

    # Classes

    def up(self, name):
        found = {name}
        for base in self.bases[name]:
            found |= self.up(base)
        return found

    def out(self, name):
        found = []
        while name is not None:
            found.append(name)
            name = self.inside[name]
        return found

    def package_of(self, name):
        return self.package[self.out(name)[-1]]

    # Points 3 and 4

    def stance(self, p, d, t):
        around_p = self.out(p)
        words = {"any"}
        if p == d:
            words.add("own")
        if p == d or d in self.out(p):
            words.add("nested")
        if p == d or p in self.out(d):
            words.add("around")
        for s in around_p:
            if d in self.up(s):
                words.add("heir")
                if s in self.up(t):
                    words.add("below")
        if self.package_of(p) == self.package_of(d):
            words.add("package")
        return tuple(word for word in WORDS if word in words)

    # Point 8

    def root(self, name):
        for owner, its_name, _ in self.declared:
            if its_name == name:
                return owner
        return None

    def kind(self, name):
        for _, its_name, kind in self.declared:
            if its_name == name:
                return kind
        return None

    def has(self, through, name):
        return self.root(name) is not None and self.root(name) in self.up(through)

    def owner(self, through, name):
        if not self.has(through, name):
            return None
        if any((owner, its_name) == (through, name) for owner, its_name, _ in self.declared):
            return through
        return self.elder(through, name)

    def elder(self, lower, name):
        """The declaration of a base."""
        found = [self.owner(base, name) for base in self.bases[lower] if self.has(base, name)]
        assert len(found) <= 1
        return found[0] if found else None

    # Points 10 and 12

    def is_naming(self, place, way, name, through):
        if way == "make":
            return name == "new"
        if not self.has(through, name):
            return False
        if way in ("read", "write"):
            return self.kind(name) == "field"
        if way == "call":
            return self.kind(name) in ("method", "static")
        return way == "elder" and self.kind(name) == "method" and through in self.bases[place]

    def concern(self, place, way, name, through):
        if way == "make":
            return (through, "new", "make"), self.stance(place, through, through)
        owner = self.owner(through, name)
        if way == "elder":
            return (owner, name, "call"), self.stance(place, owner, place)
        return (owner, name, way), self.stance(place, owner, through)

    def lets(self, mark, stance):
        return mark[0] in self.later and mark[2] == "make" or stance in self.rules[self.levels[mark]]

    def sees_maker(self, name, base):
        return self.lets((base, "new", "make"), self.stance(name, base, name))

    def sees_method(self, name, method):
        owner = self.elder(name, method)
        return self.lets((owner, method, "call"), self.stance(name, owner, name))

    def is_wide(self, name, method, level):
        return self.rules[self.levels[self.elder(name, method), method, "call"]] <= self.rules[level]

    def present(self):
        """A dict from each present use to whether it is let."""
        found = {}
        for use in self.uses:
            found[("use", *use)] = self.lets(*self.concern(*use[:4]))
        for name, bases in self.bases.items():
            for base in bases:
                found["base", name, base] = self.sees_maker(name, base)
        for owner, name, _ in self.declared:
            if owner != self.root(name):
                found["body", owner, name] = (
                    self.sees_method(owner, name) and self.is_wide(owner, name, self.levels[owner, name, "call"]))
        return found

    # Points 13 to 15

    def extended(self):
        made = Plain.__new__(Plain)
        made.__dict__.update({key: value.copy() for key, value in self.__dict__.items()})
        return made

    def add(self, row, at):
        if row[0] == "class":
            self.add_class(row, at)
        else:
            self.add_act(row, at)

    def add_class(self, row, at):
        _, name, package, inside, bases, bodies = row
        if name in self.bases:
            raise Refused("Taken", at, name)
        for known, names in ((self.later, [inside] if inside is not None else []), (self.bases, bases)):
            for other in names:
                if other not in known:
                    raise Refused("Unknown", at, other)
        if inside is None and self.sealed.get(package):
            raise Refused("Sealed", at, package)
        for count, base in enumerate(bases):
            for earlier in bases[:count]:
                if self.up(base) & self.up(earlier):
                    raise Refused("Joined", at, base)
        self.package[name], self.inside[name], self.bases[name] = package, inside, tuple(bases)
        self.later.append(name)
        for base in bases:
            if not self.sees_maker(name, base):
                self.bar(at, (base, "new", "make"), self.stance(name, base, name))
        for count, (method, level) in enumerate(bodies):
            if level not in self.rules:
                raise Refused("Unknown", at, level)
            owner = self.elder(name, method)
            if owner is None or self.kind(method) != "method" or method in [m for m, _ in bodies[:count]]:
                raise Refused("Misfit", at, method)
            if not self.sees_method(name, method):
                self.bar(at, (owner, method, "call"), self.stance(name, owner, name))
            if not self.is_wide(name, method, level):
                raise Refused("Narrow", at, (owner, method, "call"))
            self.declared.append((name, method, "method"))
            self.levels[name, method, "call"] = level

    def bar(self, at, mark, stance):
        raise Refused("Barred", at, mark, (self.levels[mark], stance))

    def add_act(self, row, at):
        _, place, way, name, through, target = row
        if place not in self.later:
            raise Refused("Unknown", at, place)
        if through not in self.bases:
            raise Refused("Unknown", at, through)
        if target is not None and target not in self.bases:
            raise Refused("Unknown", at, target)
        if not self.is_naming(place, way, name, through):
            raise Refused("Misfit", at, name)
        if way == "make" or self.kind(name) == "static":
            fits = target is None
        elif way == "elder":
            fits = target is not None and place in self.up(target)
        else:
            fits = target is not None and through in self.up(target)
        if not fits:
            raise Refused("Misfit", at, name)
        mark, stance = self.concern(place, way, name, through)
        if not self.lets(mark, stance):
            self.bar(at, mark, stance)

    def after(self, rows):
        made = self.extended()
        for at, row in enumerate(rows):
            made.add(row, at)
        return made

    def refusal(self, rows):
        """None, or the fields of the error."""
        try:
            self.after(rows)
        except Refused as error:
            return error.told
        return None

    # Points 16 and 17

    def event(self, way, name, through, target):
        if way == "make":
            return "make", through, "new", None
        if way == "elder":
            return "call", self.owner(through, name), name, target
        if self.kind(name) == "method":
            return "call", self.owner(target, name), name, target
        return way, self.root(name), name, None if self.kind(name) == "static" else target

    def happen(self, event, found):
        way, owner, name, target = event
        if owner in self.later or event in found:
            return
        found.add(event)
        for place, its_way, its_name, through, body in self.uses:
            if way == "call" and (place, body) == (owner, name):
                self.happen(self.event(its_way, its_name, through, target), found)

    def run(self, rows):
        """The set of events of an accepted program."""
        made = self.after(rows)
        found = set()
        for row in rows:
            if row[0] == "act":
                made.happen(made.event(*row[2:]), found)
        return found

    def entry(self, event):
        way, owner, name, target = event
        if target not in self.later:
            return way, owner, name, target, False
        while target in self.later:
            target, = [base for base in self.bases[target] if owner in self.up(base)]
        return way, owner, name, target, True

    def entries(self, rows):
        made = self.after(rows)
        return {made.entry(event) for event in self.run(rows)}


def stances():
    told = (
        WORDS, "nested below heir package any", "around package any", "below heir package any", "below heir any",
        "heir package any", "heir any", "package any", "any",
    )
    return [tuple(text.split()) if isinstance(text, str) else text for text in told]


def let_by(text):
    """The set of stances that a rule lets."""
    found = set()
    for part in text.replace(" ", "").split("|"):
        if part != "-":
            found |= {stance for stance in stances() if all(word in stance for word in part.split("&"))}
    return found
