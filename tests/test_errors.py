"""Promise [15]: the errors, their bases, arguments and attributes."""

import unittest

from firstfuse import errors

WITHOUT_ARGUMENT = (
    errors.TooGreat,
    errors.Unlike,
    errors.Full,
    errors.NothingToUndo,
    errors.NothingToRedo,
)
FUSE_ERRORS_WITH_ARGUMENT = (
    (errors.BadBoard, "error"),
    (errors.BadText, "line"),
    (errors.NotStrained, "fuse"),
    (errors.TooEarly, "fuses"),
)
LOOKUP_ERRORS = ((errors.NoLamp, "lamp"), (errors.NoFuse, "fuse"))
WITH_ARGUMENT = FUSE_ERRORS_WITH_ARGUMENT + LOOKUP_ERRORS
ARGUMENTS = (
    None, True, False, 0, 3, -1, 10 ** 39, "", "a lamp\n", (), (None, "board"), (2, "fuse"), (1, 2, 3),
    [], [1, [2]], {}, {"a": (1, [2])}, ((((1,),),),), object(),
)


class BasesTest(unittest.TestCase):
    def test_fuse_error_is_a_value_error(self):
        self.assertEqual((ValueError,), errors.FuseError.__bases__)

    def test_fuse_error_is_the_only_base(self):
        for kind in WITHOUT_ARGUMENT + tuple(kind for kind, _ in FUSE_ERRORS_WITH_ARGUMENT):
            self.assertEqual((errors.FuseError,), kind.__bases__, kind)

    def test_lookup_error_is_the_only_base(self):
        for kind, _ in LOOKUP_ERRORS:
            self.assertEqual((LookupError,), kind.__bases__, kind)

    def test_failed_lookups_are_no_value_errors(self):
        for kind, _ in LOOKUP_ERRORS:
            self.assertFalse(issubclass(kind, ValueError), kind)
            self.assertFalse(issubclass(kind, errors.FuseError), kind)

    def test_no_error_is_a_key_error_or_an_index_error(self):
        for kind in (errors.FuseError,) + WITHOUT_ARGUMENT + tuple(kind for kind, _ in WITH_ARGUMENT):
            self.assertFalse(issubclass(kind, (KeyError, IndexError)), kind)

    def test_each_error_has_its_own_name(self):
        names = (
            "FuseError BadBoard BadText TooGreat Unlike Full NotStrained TooEarly"
            " NothingToUndo NothingToRedo NoLamp NoFuse"
        ).split()
        for name in names:
            self.assertEqual(name, getattr(errors, name).__name__)


class ArgumentsTest(unittest.TestCase):
    def test_made_without_arguments(self):
        for kind in (errors.FuseError,) + WITHOUT_ARGUMENT:
            with self.assertRaises(kind):
                raise kind()

    def test_an_argument_by_position(self):
        for kind, name in WITH_ARGUMENT:
            for argument in ARGUMENTS:
                self.assertIs(argument, getattr(kind(argument), name), (kind, argument))

    def test_an_argument_by_name(self):
        for kind, name in WITH_ARGUMENT:
            for argument in ARGUMENTS:
                self.assertIs(argument, getattr(kind(**{name: argument}), name), (kind, argument))

    def test_the_argument_is_needed(self):
        for kind, _ in WITH_ARGUMENT:
            with self.assertRaises(TypeError):
                kind()

    def test_errors_do_not_change_one_another(self):
        for kind, name in WITH_ARGUMENT:
            one = kind(1)
            other = kind(2)
            self.assertEqual((1, 2), (getattr(one, name), getattr(other, name)))

    def test_raised_and_caught_by_their_bases(self):
        for kind, name in FUSE_ERRORS_WITH_ARGUMENT:
            for base in (kind, errors.FuseError, ValueError):
                with self.assertRaises(base) as caught:
                    raise kind((1, "x"))
                self.assertEqual((1, "x"), getattr(caught.exception, name))
        for kind, name in LOOKUP_ERRORS:
            for base in (kind, LookupError):
                with self.assertRaises(base) as caught:
                    raise kind(7)
                self.assertEqual(7, getattr(caught.exception, name))


if __name__ == "__main__":
    unittest.main()
