"""Houses: libraries with a book, what they let, and the later programs that they accept."""

from whomayname.errors import AccessError, Unknown
from whomayname.namings import is_met, needs_of, rules_of, stance_of
from whomayname.scenes import Scene


class House:
    """A library with a book, which gives each level of the library's marks a rule."""

    def __init__(self, library, book):
        _check_levels(library, book)
        self._library = library.copied()
        self._book = book

    @property
    def book(self):
        """The book. Setting it raises Unknown(level) if it lacks a level of a mark."""
        return self._book

    @book.setter
    def book(self, value):
        _check_levels(self._library, value)
        self._book = value

    def library(self):
        """A copy of the library."""
        return self._library.copied()

    def stance(self, place, owner, through):
        """The stance of place to what owner declares, through a class that is owner or below it."""
        return stance_of(self._library, place, owner, through)

    def broken(self):
        """A list of the present uses that are not let."""
        rules = rules_of(self._library, self._book)
        return [use for use, need in needs_of(self._library).items() if not is_met(need, rules)]

    def check(self, rows):
        """Raise the first error of the first row that is refused, if any."""
        self.scene(rows)

    def accepts(self, rows):
        """Whether no row is refused."""
        try:
            self.check(rows)
        except AccessError:
            return False
        return True

    def run(self, rows):
        """A list of the events of a program. Raise as check does."""
        return self.scene(rows).events()

    def releveled(self, levels):
        """A house with other levels for the marks in a dict. Raise Unknown(mark), Unknown(level)."""
        library = self.library()
        for mark, level in levels.items():
            library.set_level(mark, level)
        return House(library, self._book)

    def moved(self, name, package):
        """A house after the move of a class, with the classes inside it, into a package."""
        library = self.library()
        library.move(name, package)
        return House(library, self._book)

    def scene(self, rows):
        """The library with the later classes of a program. Raise as check does."""
        made = Scene(self.library(), self._book)
        made.take(rows)
        return made


def swap_book(house, book):
    """Set the book of a house and return the one before. Raise Unknown(level)."""
    before = house.book
    house.book = book
    return before


def _check_levels(library, book):
    for mark in library.marks:
        level = library.level_of(mark)
        if level not in book:
            raise Unknown(level)
