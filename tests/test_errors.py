import inspect
import unittest

from wrong_values import INTEGERS_BELOW, OTHER_KINDS, STRINGS, TRUTHS

from labelmoves import errors

BASES = {"WrongValue": ValueError, "WrongState": LookupError, "NoAnswer": ArithmeticError}

LISTED = {
    "WrongValue": {
        "NotAHouse": ("given",), "NotAMove": ("given",), "NotAList": ("given",), "InvalidLabel": ("given",),
        "InvalidText": ("given",), "InvalidNumber": ("given",), "InvalidWay": ("given",), "InvalidPace": ("given",),
        "InvalidBound": ("given",), "InvalidStep": ("given",), "InvalidWish": ("given",),
        "InvalidBases": ("index",), "InvalidRows": ("index",), "InvalidHouses": ("index",), "InvalidSteps": ("index",),
        "InvalidClips": ("index",), "InvalidSeen": ("index",), "InvalidMenu": ("index",),
        "InvalidExchanges": ("index",), "InvalidWishes": ("index",),
    },
    "WrongState": {"NothingToUndo": (), "Lost": ("given",)},
    "NoAnswer": {"TooLong": ("limit",), "Broken": ("index", "shown")},
}

VALUES = (0, 7, 10 ** 60, *OTHER_KINDS, *TRUTHS, *STRINGS, *INTEGERS_BELOW)


def listed():
    for base, classes in LISTED.items():
        for name, attributes in classes.items():
            yield getattr(errors, base), getattr(errors, name), attributes


class Errors(unittest.TestCase):
    def assert_holds(self, error, attributes, values):
        self.assertEqual(sorted(vars(error)), sorted(attributes))
        for attribute, value in zip(attributes, values):
            self.assertIs(getattr(error, attribute), value)

    def test_just_the_listed_classes_stand_there(self):
        names = [name for name, value in vars(errors).items() if inspect.isclass(value)]
        listed_names = [name for classes in LISTED.values() for name in classes]
        self.assertEqual(sorted(names), sorted([*BASES, *listed_names]))

    def test_base_classes(self):
        for name, behind in BASES.items():
            self.assertEqual(getattr(errors, name).__bases__, (behind,))
        for base, error, _ in listed():
            with self.subTest(error=error.__name__):
                self.assertEqual(error.__bases__, (base,))

    def test_of_no_other_class_of_the_package(self):
        classes = [value for value in vars(errors).values() if inspect.isclass(value)]
        for base, error, _ in listed():
            with self.subTest(error=error.__name__):
                self.assertEqual([known for known in classes if issubclass(error, known)], [base, error])

    def test_attributes_by_position(self):
        for _, error, attributes in listed():
            for value in VALUES:
                values = (value, object())[:len(attributes)]
                self.assert_holds(error(*values), attributes, values)

    def test_attributes_by_name(self):
        for _, error, attributes in listed():
            for value in VALUES:
                values = (value, object())[:len(attributes)]
                self.assert_holds(error(**dict(zip(attributes, values))), attributes, values)

    def test_two_attributes_in_their_order(self):
        self.assert_holds(errors.Broken(3, 5), ("index", "shown"), (3, 5))
        self.assert_holds(errors.Broken(shown=5, index=3), ("index", "shown"), (3, 5))
        self.assert_holds(errors.Broken(3, shown=5), ("index", "shown"), (3, 5))

    def test_no_attribute_may_be_left_out(self):
        for _, error, attributes in listed():
            if attributes:
                with self.subTest(error=error.__name__), self.assertRaises(TypeError):
                    error(*attributes[1:])

    def test_raised_and_caught_by_all_their_classes(self):
        for base, error, attributes in listed():
            for caught in (error, base, base.__bases__[0]):
                with self.subTest(error=error.__name__, caught=caught.__name__):
                    with self.assertRaises(caught):
                        raise error(*attributes)

    def test_can_be_shown_whatever_was_given(self):
        for _, error, attributes in listed():
            for value in VALUES:
                shown = error(*[value for _ in attributes])
                self.assertIsInstance(str(shown), str)
                self.assertIsInstance(repr(shown), str)

    def test_equal_to_themselves_alone(self):
        for _, error, attributes in listed():
            one, other = error(*attributes), error(*attributes)
            self.assertTrue(one == one)
            self.assertTrue(one != other)


if __name__ == "__main__":
    unittest.main()
