import unittest

from nearall import errors

UNDER_IT = ["NoBook", "Uneven", "NoWord", "NoNumber", "NoWeights", "NoDeeds", "Unlike", "TooBig", "NoText"]


class ErrorsTest(unittest.TestCase):
    def test_near_error_is_a_value_error(self):
        self.assertTrue(issubclass(errors.NearError, ValueError))

    def test_each_other_stands_under_near_error(self):
        for name in UNDER_IT:
            with self.subTest(name):
                kind = getattr(errors, name)
                self.assertTrue(issubclass(kind, errors.NearError))
                self.assertIsNot(kind, errors.NearError)

    def test_none_stands_under_another(self):
        for one in UNDER_IT:
            for other in UNDER_IT:
                if one != other:
                    with self.subTest(one=one, other=other):
                        self.assertFalse(issubclass(getattr(errors, one), getattr(errors, other)))

    def test_each_can_be_raised_and_taken_as_any_refusal(self):
        for name in UNDER_IT:
            with self.subTest(name), self.assertRaises(errors.NearError):
                raise getattr(errors, name)("some words")


if __name__ == "__main__":
    unittest.main()
