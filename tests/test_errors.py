import unittest

from mendworth import errors

MEND_ERRORS = {
    "InvalidModulus": ("given",), "InvalidSize": ("given",), "InvalidVector": ("at",), "Mismatch": (),
    "ZeroLetter": (), "InvalidCount": ("given",), "InvalidName": ("name",), "InvalidKeep": ("given",),
    "InvalidKeeper": ("at",), "InvalidCall": ("name", "at"), "InvalidText": ("line",), "InvalidFalls": ("given",),
    "InvalidFall": ("at",), "InvalidRows": ("name",), "InvalidFile": ("at",), "InvalidValues": ("name",),
    "Weak": ("lot",), "Torn": ("lot",), "Unreadable": ("lot",), "Steady": ("name",), "InUse": ("name",),
    "Differ": (), "NoFile": (), "InvalidDeed": ("at",), "Full": ("allowed",), "InvalidLimit": ("given",),
    "InvalidPage": ("line",), "DuplicateName": ("name",),
}
MISSING = {"UnknownName": ("name",), "UnknownCall": ("at",)}
OTHERS = {"NothingLeft": ()}
PARAMETERS = {**MEND_ERRORS, **MISSING, **OTHERS}

VALUES = (None, True, False, 0, 1, -1, 10 ** 30, 10 ** 40, "", "a", "keeper a 2\n", (), ("a", "b"), [], ["a", 1],
          {}, {"a": 1, (1, 2): [None]}, [[([{"a": ([1],)}],)]])


def named(name):
    return getattr(errors, name)


class Parameters(unittest.TestCase):
    def check(self, error, name, values):
        for parameter, value in zip(PARAMETERS[name], values, strict=True):
            kept = getattr(error, parameter)
            self.assertIs(kept.__class__, value.__class__, name)
            self.assertEqual(kept, value, name)
        self.assertEqual(error.code, name)
        self.assertIs(error.code.__class__, str)

    def rows_of_values(self, name):
        many = len(PARAMETERS[name])
        return [tuple(VALUES[(at + 3 * more) % len(VALUES)] for more in range(many)) for at in range(len(VALUES))]

    def test_by_position(self):
        for name in PARAMETERS:
            for values in self.rows_of_values(name):
                self.check(named(name)(*values), name, values)

    def test_by_name(self):
        for name, parameters in PARAMETERS.items():
            for values in self.rows_of_values(name):
                self.check(named(name)(**dict(zip(parameters, values))), name, values)

    def test_two_parameters_in_other_order_and_mixed(self):
        self.check(errors.InvalidCall(at=3, name="a"), "InvalidCall", ("a", 3))
        self.check(errors.InvalidCall("a", at=3), "InvalidCall", ("a", 3))

    def test_attributes_of_each_object_by_itself(self):
        for name, parameters in PARAMETERS.items():
            one = named(name)(*["one"] * len(parameters))
            named(name)(*["other"] * len(parameters))
            for parameter in parameters:
                self.assertEqual(getattr(one, parameter), "one")

    def test_lists_and_dicts_are_copied_at_any_depth(self):
        for name, parameters in PARAMETERS.items():
            for parameter in parameters:
                value = [1, {"a": [2]}, ([3], 4)]
                error = named(name)(**{**{one: 0 for one in parameters}, parameter: value})
                value[1]["a"].append(5)
                value[2][0].append(6)
                value.append(7)
                self.assertEqual(getattr(error, parameter), [1, {"a": [2]}, ([3], 4)])

    def test_given_values_stay_as_they_were(self):
        value = [1, {"a": [2]}, ([3], 4)]
        errors.InvalidModulus(value)
        self.assertEqual(value, [1, {"a": [2]}, ([3], 4)])

    def test_raised_and_caught(self):
        for name, parameters in PARAMETERS.items():
            with self.assertRaises(named(name)) as caught:
                raise named(name)(*["a"] * len(parameters))
            self.check(caught.exception, name, ["a"] * len(parameters))


class Bases(unittest.TestCase):
    def test_direct_base_classes(self):
        self.assertEqual(errors.MendError.__bases__, (ValueError,))
        self.assertEqual(errors.Missing.__bases__, (LookupError,))
        for name in MEND_ERRORS:
            self.assertEqual(named(name).__bases__, (errors.MendError,), name)
        for name in MISSING:
            self.assertEqual(named(name).__bases__, (errors.Missing,), name)
        self.assertEqual(errors.NothingLeft.__bases__, (IndexError,))

    def test_no_other_class_is_a_subclass_of_another_one(self):
        for one in [*PARAMETERS, "MendError", "Missing"]:
            for other in PARAMETERS:
                self.assertEqual(issubclass(named(one), named(other)), one == other, (one, other))
        self.assertFalse(issubclass(errors.Missing, errors.MendError))
        self.assertFalse(issubclass(errors.MendError, errors.Missing))

    def test_names_and_places(self):
        for name in [*PARAMETERS, "MendError", "Missing"]:
            self.assertEqual(named(name).__name__, name)
            self.assertEqual(named(name).__module__, "mendworth.errors")

    def test_the_two_base_classes_themselves(self):
        for base, above in ((errors.MendError, ValueError), (errors.Missing, LookupError)):
            with self.assertRaises(above) as caught:
                raise base()
            self.assertIs(caught.exception.__class__, base)

    def test_caught_by_their_bases(self):
        for name, parameters in PARAMETERS.items():
            values = [0] * len(parameters)
            above = ValueError if name in MEND_ERRORS else LookupError
            with self.assertRaises(above):
                raise named(name)(*values)


if __name__ == "__main__":
    unittest.main()
