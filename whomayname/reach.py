"""Reach: what any later code can do with the members of a library."""

from whomayname.errors import Unknown
from whomayname.namings import event_of, events_from
from whomayname.strangers import Cast, base_of, namings_of


class Table:
    """The entries of all events of the programs that a house accepts, each with a shortest program."""

    def __init__(self, house):
        self._programs = _programs_of(house)

    def __contains__(self, entry):
        return entry in self._programs

    def __getitem__(self, entry):
        if entry not in self._programs:
            raise Unknown(entry)
        return list(self._programs[entry])

    def __len__(self):
        return len(self._programs)

    def __iter__(self):
        return iter(self._programs)


def _programs_of(house):
    """For each entry a program that shows it. The shorter strangers come first, so no program is too long."""
    library = house.library()
    programs = {}
    for rows in _strangers(house, library):
        scene = house.scene(rows)
        for naming in namings_of(library, rows):
            # An entry that is shown already brought all that follow from it.
            targets = [
                target for target in _targets(library, rows, naming)
                if _entries(library, rows, naming, target)[0] not in programs
            ]
            if len(targets) > 0 and scene.lets(*naming):
                for target in targets:
                    program = rows + [("act", *naming, target)]
                    for entry in _entries(library, rows, naming, target):
                        programs.setdefault(entry, program)
    return programs


def _strangers(house, library):
    cast = Cast([library])
    lone = [row for row in cast.lone_rows() if house.accepts([row])]
    twins = [rows for rows in cast.twin_rows(lone) if house.accepts(rows)]
    return [[row] for row in lone] + twins


def _targets(library, rows, naming):
    """The classes, among those of the library and the stranger's last one, of which the object may be."""
    place, way, name, through = naming
    if not library.is_on_object(way, name):
        return [None]
    upper = base_of(rows) if through == place else through
    own = [place] if library.is_below(base_of(rows), upper) else []
    return own + [target for target in library.classes if through != place and library.is_below(target, upper)]


def _entries(library, rows, naming, target):
    """The entries of an act by a stranger and of all that follows from it, its own one first."""
    place, way, name, through = naming
    is_later = target == place
    # Whatever happens to an object of the stranger's class happens as to one of its base.
    stand_in = {place: base_of(rows)}
    first = event_of(library, way, name, stand_in.get(through, through), stand_in.get(target, target))
    return [
        (kind, owner, member, upon, is_later and upon is not None)
        for kind, owner, member, upon in events_from(library, first)
    ]
