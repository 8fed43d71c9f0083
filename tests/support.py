"""What several test files need: to see an error whole, and to see that a library did not change."""

from whomayname.errors import AccessError, Barred, Shut


class Refusals:
    """A mixin for test cases."""

    def assert_refused(self, refusal, what, call, /, *args, **more):
        """That the call raises exactly this error, with row None."""
        with self.assertRaises(AccessError) as caught:
            call(*args, **more)
        error = caught.exception
        self.assertEqual((type(error), error.what, error.row), (refusal, what, None), (args, more))

    def assert_program_refused(self, house, rows, refusal, row, what, why=None):
        """That a house raises exactly this error for a program, which stays as it was, up to the row of the error."""
        before = list(rows)
        for call in (house.check, house.run):
            with self.assertRaises(AccessError) as caught:
                call(rows)
            error = caught.exception
            self.assertEqual((type(error), error.row, error.what), (refusal, row, what), rows)
            self.assertEqual(getattr(error, "why", None), why, rows)
            if refusal is Barred:
                self.assertIs(type(error.__cause__), Shut)
                self.assertEqual(error.__cause__.what, why[0])
        self.assertIs(house.accepts(rows), False)
        self.assertEqual(rows, before)
        self.assert_accepted(house, rows[:row])

    def assert_accepted(self, house, rows):
        """That a house accepts each beginning of a program, which stays as it was."""
        before = list(rows)
        self.assertIsNone(house.check(rows))
        for count in range(len(rows) + 1):
            self.assertIs(house.accepts(rows[:count]), True, rows[:count])
        self.assertEqual(rows, before)


def seen(library, names):
    """All that a library tells, also of names that it does not know."""
    return (
        library.classes,
        sorted((mark, library.level_of(mark)) for mark in library.marks),
        {(a, b): library.is_below(a, b) for a in library.classes for b in library.classes},
        {(a, b): library.owner_of(a, b) for a in names for b in names},
        {name: library.is_sealed(name) for name in names},
        library.uses,
        {name: library.package_of(name) for name in library.classes},
    )


def seen_of_house(house):
    """All that a house tells of its library and its present uses, and its book."""
    library = house.library()
    names = [*library.classes, *library.package_names(), *(mark[1] for mark in library.marks), "new", "f2", "z"]
    return seen(library, names), sorted(house.broken(), key=str), house.book
