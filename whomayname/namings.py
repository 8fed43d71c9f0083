"""What a naming concerns, what it does when it happens, and what the present uses need."""

from whomayname.library import MAKER
from whomayname.rules import STANCES


def stance_of(library, place, owner, through):
    """The stance of code in place that names what owner declares, through a class that has it."""
    heirs = [name for name in library.around(place) if library.is_below(name, owner)]
    holds = (
        place == owner,
        library.lies_in(place, owner),
        library.lies_in(owner, place),
        any([library.is_below(through, name) for name in heirs]),
        len(heirs) > 0,
        library.package_of(place) == library.package_of(owner),
        True,
    )
    # The first stance has all words, in their order.
    return tuple([word for word, held in zip(STANCES[0], holds) if held])


def concern_of(library, place, way, name, through):
    """The mark that a naming concerns, and the stance in which it does."""
    if way == "make":
        return (through, MAKER, way), stance_of(library, place, through, through)
    owner = library.owner_of(through, name)
    if way == "elder":
        return sight_of(library, place, (owner, name, "call"))
    return (owner, name, way), stance_of(library, place, owner, through)


def sight_of(library, place, mark):
    """A mark of a class above place, and the stance in which place sees it."""
    return mark, stance_of(library, place, mark[0], place)


def event_of(library, way, name, through, target):
    """The event of a naming whose object is of the class target."""
    if way == "make":
        return (way, through, MAKER, None)
    if not library.is_on_object(way, name):
        return (way, library.owner_of(through, name), name, None)
    if way == "elder":
        return ("call", library.owner_of(through, name), name, target)
    # A call goes to the declaration that the object has; a field has one owner everywhere.
    return (way, library.owner_of(target, name), name, target)


def events_from(library, first):
    """An event and all that happen by it: a call makes the uses in its body happen, let or not."""
    found = {first: True}
    waiting = [first]
    while waiting:
        way, owner, body, target = waiting.pop()
        uses = library.uses_in(owner, body) if way == "call" else []
        for use in uses:
            event = event_of(library, use[1], use[2], use[3], target)
            if event not in found:
                found[event] = True
                waiting.append(event)
    return list(found)


def needs_of(library):
    """What each present use needs: a mark, the stance that it has to let, and the mark that has to be as wide."""
    needs = {}
    for place, way, name, through, body in library.uses:
        mark, stance = concern_of(library, place, way, name, through)
        needs[("use", place, way, name, through, body)] = (mark, stance, None)
    for name in library.classes:
        for base in library.bases_of(name):
            mark, stance = sight_of(library, name, (base, MAKER, "make"))
            needs[("base", name, base)] = (mark, stance, None)
    for owner, name, _ in library.declarations():
        if library.root_of(name) != owner:
            above = library.owner_above(owner, name)
            mark, stance = sight_of(library, owner, (above, name, "call"))
            needs[("body", owner, name)] = (mark, stance, (owner, name, "call"))
    return needs


def rules_of(library, book):
    """The rule of each mark."""
    return {mark: book[library.level_of(mark)] for mark in library.marks}


def is_met(need, rules):
    """Whether the rules of the marks give what a present use needs."""
    mark, stance, wider = need
    return stance in rules[mark] and (wider is None or rules[mark] <= rules[wider])
