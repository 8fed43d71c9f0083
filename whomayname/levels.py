"""Levels: the tightest that keep what the present uses need, and the fewest wider ones that grant wishes."""

from whomayname.namings import concern_of, is_met, needs_of, rules_of


def tightest(house):
    """A dict from each mark to its tightest level: no mark alone could get a strictly tighter one."""
    library, book = house.library(), house.book
    rules = rules_of(library, book)
    needs = _met_needs(library, rules)
    levels = {mark: library.level_of(mark) for mark in library.marks}
    # A mark may have to wait until another one, which it has to be as wide as, has become tighter.
    is_done = False
    while not is_done:
        is_done = True
        for mark in library.marks:
            level = _tighter(book, rules, mark, needs)
            if level is not None:
                levels[mark] = level
                rules[mark] = book[level]
                is_done = False
    return levels


def against(house, mark, level):
    """A present use that is let, but not if the mark alone gets the level; or None."""
    broken = house.broken()
    for use in house.releveled({mark: level}).broken():
        if use not in broken:
            return use
    return None


def openings(house, wishes):
    """A dict of as few marks as possible with strictly wider levels that grant all wishes, or None."""
    library, book = house.library(), house.book
    rules = rules_of(library, book)
    needs = _met_needs(library, rules)
    wishes_by_member = {}
    for place, way, name, target in wishes:
        wishes_by_member.setdefault((name, way), []).append(_grants(library, place, way, name, target))
    found = {}
    for member, its_wishes in wishes_by_member.items():
        # Other marks neither grant these wishes nor are to be as wide as these; wider ones lose no other need.
        its_rules = {mark: rule for mark, rule in rules.items() if mark[1:] == member}
        its_needs = [need for need in needs if need[0] in its_rules and need[2] is not None]
        levels = _fewest(book, its_rules, its_wishes, its_needs)
        if levels is None:
            return None
        for mark, level in levels.items():
            found[mark] = level
    return found


def _met_needs(library, rules):
    return [need for need in needs_of(library).values() if is_met(need, rules)]


def _is_tighter(rule, other):
    return rule <= other and not other <= rule


def _tighter(book, rules, mark, needs):
    """A strictly tighter level for a mark that loses nothing, or None."""
    its_needs = [need for need in needs if mark in (need[0], need[2])]
    for level in book:
        if _is_tighter(book[level], rules[mark]):
            after = _with_levels(book, rules, {mark: level})
            if all([is_met(need, after) for need in its_needs]):
                return level
    return None


def _grants(library, place, way, name, target):
    """A list of the (mark, stance) of which one has to be let to grant a wish."""
    return [
        concern_of(library, place, way, name, through)
        for through in library.classes
        if library.is_below(target, through) and library.is_naming(place, way, name, through)
    ]


def _fewest(book, rules, wishes, needs):
    """A dict of as few new levels as possible that grant the wishes and lose nothing, or None."""
    wave = [{}]
    while len(wave) > 0:
        # All dicts of one length come before those that have one level more.
        following = {}
        for levels in wave:
            after = _with_levels(book, rules, levels)
            changes = _next_changes(book, rules, after, wishes, needs)
            if changes is None:
                return levels
            for mark, level in changes:
                if mark not in levels:
                    more = {its_mark: levels[its_mark] for its_mark in levels}
                    more[mark] = level
                    following[_key_of(rules, more)] = more
        wave = list(following.values())
    return None


def _with_levels(book, rules, levels):
    after = {mark: rules[mark] for mark in rules}
    for mark, level in levels.items():
        after[mark] = book[level]
    return after


def _key_of(rules, levels):
    return tuple([levels.get(mark) for mark in rules])


def _next_changes(book, rules, after, wishes, needs):
    """The changes (mark, level) of which one has to come next, or None if nothing is wanting.

    A level that was widened once stays: where it does not do, another dict has it wider.
    """
    for grants in wishes:
        if not any([stance in after[mark] for mark, stance in grants]):
            return [
                (mark, level) for mark, stance in grants for level in book
                if _is_tighter(rules[mark], book[level]) and stance in book[level]
            ]
    for need in needs:
        if not is_met(need, after):
            mark = need[2]
            return [
                (mark, level) for level in book
                if _is_tighter(rules[mark], book[level]) and after[need[0]] <= book[level]
            ]
    return None
