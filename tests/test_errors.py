"""The refusals: where their classes stand, and their fields."""

import unittest

from mendsure import errors

PLAIN = ["TooGreat", "NoText", "NoPlace", "NotPlain"]
PLACED = ["NoTable", "NoRule", "NoRow", "Twice", "NoQuestion", "Double"]
OTHERS = ["TooWide", "Ring"]


def class_of(name):
    return getattr(errors, name)


class TestErrors(unittest.TestCase):
    def test_mend_error_is_a_value_error(self):
        self.assertTrue(issubclass(errors.MendError, ValueError))

    def test_each_refusal_stands_straight_under_mend_error(self):
        for name in PLAIN + PLACED + OTHERS:
            with self.subTest(name):
                self.assertEqual(class_of(name).__bases__, (errors.MendError,))

    def test_no_refusal_is_another_one(self):
        names = PLAIN + PLACED + OTHERS
        for one in names:
            for other in names:
                with self.subTest(one=one, other=other):
                    self.assertEqual(issubclass(class_of(one), class_of(other)), one == other)

    def test_each_refusal_is_taken_as_mend_error_and_as_value_error(self):
        for name in PLAIN + PLACED + OTHERS:
            for base in (errors.MendError, ValueError):
                with self.subTest(name=name, base=base.__name__):
                    with self.assertRaises(base):
                        raise class_of(name)([0, 1])

    def test_places(self):
        for name in PLACED:
            with self.subTest(name):
                self.assertEqual(class_of(name)(7).place, 7)

    def test_number(self):
        self.assertEqual(errors.TooWide(16).number, 16)

    def test_ring_is_a_list_of_its_own(self):
        told = [0, 2]
        refusal = errors.Ring(told)
        told.append(5)
        self.assertEqual(refusal.ring, [0, 2])


if __name__ == "__main__":
    unittest.main()
