import unittest

from tellrounds import errors

FIELDS = {
    "InvalidTree": ("path", "reason"),
    "TooMany": (),
    "LastVertex": (),
    "NotLeaf": ("vertex",),
    "NotPlain": (),
    "TooSmall": (),
    "TooLarge": ("limit",),
    "TooLate": ("limit",),
    "OutOfRange": (),
    "UnknownLimit": ("name",),
    "TooManyActions": (),
    "Busy": (),
    "NothingToUndo": (),
    "InvalidBatch": (),
    "BatchFailed": ("index",),
    "InvalidDelay": ("delay",),
    "InBranch": ("target",),
    "TooSlow": ("least",),
    "ParseError": ("place",),
    "NoSuchVertex": ("vertex",),
    "NoSuchEdge": ("vertex", "away"),
    "NoSuchStep": ("step",),
}
LOOKUPS = ("NoSuchVertex", "NoSuchEdge", "NoSuchStep")


def error_class(name):
    return getattr(errors, name)


def base_of(name):
    return LookupError if name in LOOKUPS else errors.TellError


def make_error(name):
    return error_class(name)(*[[field] for field in FIELDS[name]])


class ErrorsTest(unittest.TestCase):
    def test_all_are_defined_here(self):
        defined = {name for name, value in vars(errors).items() if isinstance(value, type)}
        self.assertEqual(defined, {"TellError", *FIELDS})
        for name in defined:
            self.assertEqual(error_class(name).__module__, "tellrounds.errors")

    def test_bases(self):
        self.assertEqual(errors.TellError.__bases__, (ValueError,))
        for name in FIELDS:
            with self.subTest(name=name):
                self.assertEqual(error_class(name).__bases__, (base_of(name),))

    def test_fields_are_stored_unchanged_in_this_order(self):
        values = ([1, {"a": [2]}], (None, True, "text\n"))
        for name, fields in FIELDS.items():
            with self.subTest(name=name):
                error = error_class(name)(*values[:len(fields)])
                self.assertEqual(set(vars(error)), set(fields))
                for field, value in zip(fields, values):
                    self.assertIs(getattr(error, field), value)
        self.assertEqual(values, ([1, {"a": [2]}], (None, True, "text\n")))

    def test_fields_of_every_kind(self):
        for value in (None, True, False, 0, -1, 10 ** 30 - 1, "", "a\nb", (), (1, "x"), [], {}, {"k": [1]}):
            for name, fields in FIELDS.items():
                with self.subTest(name=name, value=value):
                    error = error_class(name)(*[value for _ in fields])
                    for field in fields:
                        self.assertIs(getattr(error, field), value)

    def test_caught_by_its_class_and_its_base(self):
        for name in FIELDS:
            for caught in (error_class(name), base_of(name)):
                with self.subTest(name=name, caught=caught):
                    error = make_error(name)
                    with self.assertRaises(caught) as context:
                        raise error
                    self.assertIs(context.exception, error)

    def test_tell_errors_are_value_errors_and_lookups_are_not(self):
        for name in FIELDS:
            with self.subTest(name=name):
                lookup = name in LOOKUPS
                error = make_error(name)
                self.assertEqual(isinstance(error, LookupError), lookup)
                self.assertEqual(isinstance(error, ValueError), not lookup)
                self.assertEqual(isinstance(error, errors.TellError), not lookup)

    def test_no_error_is_caught_by_another_one(self):
        for name in FIELDS:
            for other in FIELDS:
                if other != name:
                    self.assertFalse(issubclass(error_class(name), error_class(other)), (name, other))

    def test_tell_error_itself(self):
        with self.assertRaises(errors.TellError):
            raise errors.TellError()


if __name__ == "__main__":
    unittest.main()
