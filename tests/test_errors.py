"""The errors: all stand under PlanFault, a ValueError, and none is another's kind."""

import unittest

from planwright import errors

NAMES = ("BadFact", "BadDeed", "BadPlan", "BadPaper", "BadSize", "BadText", "BadStore", "NoPlan", "NoSuch")


class ErrorsTest(unittest.TestCase):
    def test_plan_fault_is_a_value_error(self):
        self.assertEqual(errors.PlanFault.__bases__, (ValueError,))

    def test_each_stands_right_under_plan_fault(self):
        for name in NAMES:
            self.assertEqual(getattr(errors, name).__bases__, (errors.PlanFault,), name)

    def test_each_carries_its_words(self):
        for name in NAMES:
            kind = getattr(errors, name)
            with self.assertRaises(kind) as caught:
                raise kind("some words")
            self.assertEqual(str(caught.exception), "some words")

    def test_none_is_taken_for_another(self):
        for name in NAMES:
            for other in NAMES:
                same = issubclass(getattr(errors, name), getattr(errors, other))
                self.assertEqual(same, name == other, (name, other))


if __name__ == "__main__":
    unittest.main()
