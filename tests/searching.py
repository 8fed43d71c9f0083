"""Full searches over small programs, by the plain reading of tests.plain."""

import itertools

from tests.plain import Refused


def tried(plain, row, at):
    """The plain house after one more row, or None."""
    made = plain.extended()
    try:
        made.add(row, at)
    except Refused:
        return None
    return made


def class_rows(plain, packages, levels, most_bases=2):
    """All rows of a next class, with at most one body."""
    name = f"n{len(plain.later)}"
    places = [(package, None) for package in packages] + [(None, inside) for inside in plain.later]
    methods = [name for owner, name, kind in plain.declared if kind == "method" and plain.root(name) == owner]
    for count in range(most_bases + 1):
        for bases in itertools.combinations(plain.bases, count):
            known = [method for method in methods if any(plain.has(base, method) for base in bases)]
            for bodies in [()] + [((method, level),) for method in known for level in levels]:
                for package, inside in places:
                    yield "class", name, package, inside, bases, bodies


def acts(plain):
    """All acts that are namings and have a target that fits."""
    names = list(dict.fromkeys(name for _, name, _ in plain.declared))
    ways = {"field": ("read", "write"), "method": ("call", "elder"), "static": ("call",)}
    for place in plain.later:
        for through in plain.bases:
            yield "act", place, "make", "new", through, None
            for name in names:
                for way in ways[plain.kind(name)]:
                    if plain.is_naming(place, way, name, through):
                        upper = place if way == "elder" else through
                        fitting = [target for target in plain.bases if upper in plain.up(target)]
                        for target in [None] if plain.kind(name) == "static" else fitting:
                            yield "act", place, way, name, through, target


def packages_of(*plains):
    """All known packages, and two that nobody knows."""
    return list(dict.fromkeys([name for plain in plains for name in plain.sealed])) + ["y0", "y1"]


def shown(plain, most_classes, most_bases=2):
    """A dict from each entry of the programs of so many classes and an act to the least number of rows."""
    found = {}

    def look(rows, now):
        for act in acts(now):
            if now.lets(*now.concern(*act[1:5])):
                for event in events(now, act):
                    entry = now.entry(event)
                    found[entry] = min(found.get(entry, 99), len(rows) + 1)
        if len(rows) < most_classes:
            for row in class_rows(now, packages_of(plain), list(plain.rules), most_bases):
                following = tried(now, row, len(rows))
                if following is not None:
                    look(rows + [row], following)

    look([], plain)
    return found


def events(now, act):
    found = set()
    now.happen(now.event(*act[2:]), found)
    return found


def breaks(plain, other, length, most_bases=2):
    """All breaks of a length whose rows are, but for the last, classes that both accept."""
    packages, levels = packages_of(plain, other), list(plain.rules)

    def look(rows, now, there):
        for row in class_rows(now, packages, levels, most_bases):
            here = tried(now, row, len(rows))
            if here is not None:
                beyond = tried(there, row, len(rows))
                if len(rows) + 1 == length:
                    if beyond is None:
                        yield rows + [row]
                elif beyond is not None:
                    yield from look(rows + [row], here, beyond)
        if len(rows) + 1 == length:
            for act in acts(now):
                if now.lets(*now.concern(*act[1:5])) and not there.lets(*there.concern(*act[1:5])):
                    yield rows + [act]

    return look([], plain, other)


def shortest_break(plain, other, most, most_bases=2):
    """A shortest break of at most so many rows, or None."""
    for length in range(1, most + 1):
        for rows in breaks(plain, other, length, most_bases):
            return rows
    return None
