"""The errors: where they stand, and the fields that they are made with."""

import unittest

from heirsback import errors

UNDER_HEIRSBACK = {
    "BadLibrary": ("at",),
    "BadWorld": ("at",),
    "BadValue": ("field",),
    "BadExpression": ("at",),
    "BadFamily": ("word",),
    "BadVirtue": ("word",),
    "BadMaker": ("maker",),
    "NoClass": ("name",),
    "NoSign": ("sign",),
    "TooMany": ("what",),
    "Unlike": ("at",),
}
UNDER_LOOKUP = {
    "Surplus": ("name", "many"),
    "Lacking": ("name", "field"),
    "Unknown": ("name", "field"),
    "Failed": ("at", "reason"),
}
ALL = {**UNDER_HEIRSBACK, **UNDER_LOOKUP}
ANY_VALUE = ("BadFamily", "BadVirtue", "BadMaker", "NoClass", "NoSign")


class Places(unittest.TestCase):
    def test_heirsback_error_stands_directly_under_value_error(self):
        self.assertEqual(errors.HeirsbackError.__bases__, (ValueError,))

    def test_eleven_stand_directly_under_heirsback_error(self):
        self.assertEqual(len(UNDER_HEIRSBACK), 11)
        for name in UNDER_HEIRSBACK:
            with self.subTest(name=name):
                self.assertEqual(getattr(errors, name).__bases__, (errors.HeirsbackError,))

    def test_four_stand_directly_under_lookup_error(self):
        self.assertEqual(len(UNDER_LOOKUP), 4)
        for name in UNDER_LOOKUP:
            with self.subTest(name=name):
                self.assertEqual(getattr(errors, name).__bases__, (LookupError,))

    def test_none_of_the_fifteen_stands_under_another(self):
        for one in ALL:
            for other in ALL:
                if one != other:
                    with self.subTest(one=one, other=other):
                        self.assertFalse(issubclass(getattr(errors, one), getattr(errors, other)))

    def test_each_is_defined_in_its_file(self):
        for name in [*ALL, "HeirsbackError"]:
            with self.subTest(name=name):
                self.assertEqual(getattr(errors, name).__module__, "heirsback.errors")


class Fields(unittest.TestCase):
    def test_by_position_in_this_order(self):
        for name, fields in ALL.items():
            with self.subTest(name=name):
                told = ["first", "second"][:len(fields)]
                error = getattr(errors, name)(*told)
                self.assertEqual([getattr(error, field) for field in fields], told)

    def test_by_name(self):
        for name, fields in ALL.items():
            with self.subTest(name=name):
                told = {field: f"the {field}" for field in fields}
                error = getattr(errors, name)(**told)
                self.assertEqual({field: getattr(error, field) for field in fields}, told)

    def test_no_fewer_and_no_more(self):
        for name, fields in ALL.items():
            with self.subTest(name=name):
                made = getattr(errors, name)
                self.assertRaises(TypeError, made, *([1] * (len(fields) - 1)))
                self.assertRaises(TypeError, made, *([1] * (len(fields) + 1)))

    def test_any_value_is_kept_as_it_is(self):
        for name in ANY_VALUE:
            for value in (0, -3, True, False, None, "", "x", [], [1, [2]], (), (1, [2, (3,)])):
                with self.subTest(name=name, value=value):
                    kept = getattr(getattr(errors, name)(value), ALL[name][0])
                    self.assertEqual(kept, value)
                    self.assertIs(kept.__class__, value.__class__)

    def test_later_changes_to_the_argument_have_no_effect(self):
        for name in ANY_VALUE:
            with self.subTest(name=name):
                inner = [1]
                value = [inner, (inner, [inner])]
                error = getattr(errors, name)(value)
                inner.append(2)
                value.append(3)
                self.assertEqual(getattr(error, ALL[name][0]), [[1], ([1], [[1]])])

    def test_an_error_equals_nothing_else(self):
        for name, fields in ALL.items():
            with self.subTest(name=name):
                told = [7] * len(fields)
                error = getattr(errors, name)(*told)
                self.assertEqual(error, error)
                for other in ALL:
                    if other != name:
                        self.assertNotEqual(error, getattr(errors, other)(*([7] * len(ALL[other]))))
                self.assertNotEqual(error, 7)
                self.assertNotEqual(error, tuple(told))


if __name__ == "__main__":
    unittest.main()
