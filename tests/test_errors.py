"""The error classes: their bases, their values, by position and by name."""

import unittest

from lookpast import errors

CLASSES = (
    ("NoPerson", LookupError, "person"),
    ("NoNumber", LookupError, "number"),
    ("NoDeed", LookupError, "many"),
    ("OtherSize", ValueError, "size"),
    ("NoRoot", ValueError, "person"),
    ("MissingRoot", ValueError, "person"),
    ("NotKin", ValueError, None),
    ("NotPast", ValueError, None),
    ("BadDeed", ValueError, "at"),
    ("BadText", ValueError, "at"),
    ("BadLine", ValueError, "at"),
    ("Unreachable", RuntimeError, "obstacle"),
    ("NoCommon", RuntimeError, "bar"),
    ("Denied", RuntimeError, "obstacle"),
    ("IsRoot", RuntimeError, "person"),
    ("TooMany", OverflowError, "many"),
)

VALUES = (0, 7, -3, 10 ** 12, 10 ** 5000, -(10 ** 5000))
BARS = (("way", 1), ("rings", 0, 1), ("order", 0, 2, 1), ("people", 3))


def with_value():
    for name, base, attribute in CLASSES:
        if attribute is not None:
            yield getattr(errors, name), attribute


def values_for(attribute):
    return BARS if attribute in ("obstacle", "bar") else VALUES


class Classes(unittest.TestCase):
    def test_there_are_sixteen(self):
        found = {name for name, value in vars(errors).items() if isinstance(value, type)}
        self.assertEqual(found, {name for name, base, attribute in CLASSES})
        self.assertEqual(len(found), 16)

    def test_each_has_one_direct_base(self):
        for name, base, attribute in CLASSES:
            with self.subTest(name):
                own = getattr(errors, name)
                self.assertEqual(own.__bases__, (base,))
                self.assertEqual(own.__mro__, (own,) + base.__mro__)

    def test_each_is_caught_by_its_base(self):
        for own, attribute in with_value():
            with self.subTest(own.__name__):
                with self.assertRaises(own.__bases__[0]) as caught:
                    raise own(values_for(attribute)[0])
                self.assertEqual(getattr(caught.exception, attribute), values_for(attribute)[0])


class Values(unittest.TestCase):
    def test_by_position(self):
        for own, attribute in with_value():
            for value in values_for(attribute):
                with self.subTest(own.__name__):
                    self.assertEqual(getattr(own(value), attribute), value)

    def test_by_name(self):
        for own, attribute in with_value():
            for value in values_for(attribute):
                with self.subTest(own.__name__):
                    self.assertEqual(getattr(own(**{attribute: value}), attribute), value)

    def test_without_values(self):
        self.assertIsInstance(errors.NotKin(), errors.NotKin)
        self.assertIsInstance(errors.NotPast(), errors.NotPast)

    def test_wrong_number_of_values(self):
        for own, attribute in with_value():
            with self.subTest(own.__name__):
                self.assertRaises(TypeError, own)
                self.assertRaises(TypeError, own, 1, 2)
                self.assertRaises(TypeError, lambda own=own: own(other=1))
        self.assertRaises(TypeError, errors.NotKin, 1)
        self.assertRaises(TypeError, errors.NotPast, 1)

    def test_each_object_has_its_own_value(self):
        for own, attribute in with_value():
            first, second = values_for(attribute)[:2]
            one, other = own(first), own(second)
            with self.subTest(own.__name__):
                self.assertEqual([getattr(one, attribute), getattr(other, attribute)], [first, second])

    def test_every_error_can_be_shown(self):
        for own, attribute in with_value():
            for value in values_for(attribute):
                with self.subTest(own.__name__):
                    self.assertIsInstance(str(own(value)), str)
                    self.assertIsInstance(repr(own(**{attribute: value})), str)

    def test_a_list_in_place_of_a_tuple_is_copied(self):
        for own, attribute in with_value():
            if attribute in ("obstacle", "bar"):
                passed = ["way", 1]
                error = own(passed)
                passed[1] = 5
                with self.subTest(own.__name__):
                    self.assertEqual(getattr(error, attribute), ("way", 1))


if __name__ == "__main__":
    unittest.main()
