"""Tests of readingsall.errors: the interface's list of errors, and point 2 for their fields."""

import unittest

from readingsall import errors

PLAIN = ("BadName", "BadGrammar", "Duplicate", "Unknown", "BadText", "BadForest", "NoReading")

RING = [("np", ("sg",)), ("n", ("sg",)), ("np", ("sg",))]


def examples():
    """One object of each class but ReadingsError, by the name of the class."""
    found = {name: getattr(errors, name)("words") for name in PLAIN}
    found["NoGrowth"] = errors.NoGrowth(("ab", "c", ""), "cat")
    found["Ring"] = errors.Ring(list(RING))
    found["BadLine"] = errors.BadLine(0)
    return found


class Family(unittest.TestCase):
    def test_base_class_is_a_value_error(self):
        self.assertEqual(errors.ReadingsError.__bases__, (ValueError,))
        self.assertIsInstance(errors.ReadingsError("words"), ValueError)

    def test_each_class_has_the_base_class_alone(self):
        for name, error in examples().items():
            with self.subTest(name):
                self.assertEqual(type(error).__name__, name)
                self.assertEqual(type(error).__bases__, (errors.ReadingsError,))

    def test_no_error_is_one_of_another_class(self):
        found = examples()
        self.assertEqual(len(found), 10)
        for name, error in found.items():
            for other in found:
                with self.subTest(error=name, other=other):
                    self.assertEqual(isinstance(error, getattr(errors, other)), name == other)

    def test_each_is_raised_and_caught_by_its_name_and_by_the_base(self):
        for name, error in examples().items():
            for caught in (getattr(errors, name), errors.ReadingsError, ValueError):
                with self.subTest(error=name, caught=caught.__name__):
                    with self.assertRaises(caught) as held:
                        raise error
                    self.assertIs(held.exception, error)

    def test_plain_errors_need_no_words(self):
        for name in ("ReadingsError",) + PLAIN:
            with self.subTest(name):
                self.assertEqual(str(getattr(errors, name)()), "")


class Fields(unittest.TestCase):
    def test_no_growth(self):
        error = errors.NoGrowth(("ab", "c", ""), "cat")
        self.assertEqual(error.seam, ("ab", "c", ""))
        self.assertIs(type(error.seam), tuple)
        self.assertEqual(error.text, "cat")
        self.assertNotEqual(str(error), "")

    def test_no_growth_by_keywords(self):
        error = errors.NoGrowth(seam=("a", "b", "c"), text="b")
        self.assertEqual((error.seam, error.text), (("a", "b", "c"), "b"))

    def test_ring(self):
        error = errors.Ring(list(RING))
        self.assertEqual(error.ring, RING)
        self.assertIs(type(error.ring), list)
        self.assertNotEqual(str(error), "")

    def test_bad_line(self):
        for line in (0, 1, 10 ** 30):
            with self.subTest(line):
                error = errors.BadLine(line)
                self.assertEqual(error.line, line)
                self.assertIs(type(error.line), int)
                self.assertNotEqual(str(error), "")

    def test_objects_do_not_share_fields(self):
        one, two = errors.BadLine(1), errors.BadLine(2)
        self.assertEqual((one.line, two.line), (1, 2))
        one, two = errors.Ring(list(RING)), errors.Ring([])
        one.ring.append(("v", ()))
        self.assertEqual(two.ring, [])


class Copies(unittest.TestCase):
    def test_later_change_of_the_list_changes_no_error(self):
        ring = list(RING)
        one, two = errors.Ring(ring), errors.Ring(ring)
        told = (str(one), repr(one), repr(one.args))
        ring.append(("v", ()))
        ring[0] = ("changed", ())
        for error in (one, two):
            self.assertEqual(error.ring, RING)
            self.assertEqual((str(error), repr(error), repr(error.args)), told)
        ring.clear()
        self.assertEqual(one.ring, RING)
        self.assertEqual((str(one), repr(one), repr(one.args)), told)

    def test_the_list_is_not_modified_and_not_kept(self):
        ring = list(RING)
        error = errors.Ring(ring)
        self.assertEqual(ring, RING)
        self.assertIsNot(error.ring, ring)
        error.ring.pop()
        self.assertEqual(ring, RING)


if __name__ == "__main__":
    unittest.main()
