"""What several test files need: to see an error whole, and to see that a library did not change."""

from whomayname.errors import AccessError


class Refusals:
    """A mixin for test cases."""

    def assert_refused(self, refusal, what, call, /, *args, **more):
        """That the call raises exactly this error, with row None."""
        with self.assertRaises(AccessError) as caught:
            call(*args, **more)
        error = caught.exception
        self.assertEqual((type(error), error.what, error.row), (refusal, what, None), (args, more))


def seen(library, names):
    """All that a library tells, also of names that it does not know."""
    return (
        library.classes,
        sorted((mark, library.level_of(mark)) for mark in library.marks),
        {(a, b): library.is_below(a, b) for a in library.classes for b in library.classes},
        {(a, b): library.owner_of(a, b) for a in names for b in names},
        {name: library.is_sealed(name) for name in names},
        library.uses,
        {name: library.package_of(name) for name in library.classes},
    )
