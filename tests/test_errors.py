import unittest

from wordyard.errors import NoPattern, NoRoom, NoText, YardError

REFUSALS = (NoPattern, NoText, NoRoom)


class Errors(unittest.TestCase):
    def test_any_refusal_is_a_value_error(self):
        self.assertTrue(issubclass(YardError, ValueError))

    def test_each_refusal_stands_below_the_common_one(self):
        for refusal in REFUSALS:
            self.assertTrue(issubclass(refusal, YardError))
            self.assertIsNot(refusal, YardError)

    def test_no_refusal_stands_below_another(self):
        for one in REFUSALS:
            for other in REFUSALS:
                self.assertEqual(issubclass(one, other), one is other, (one, other))

    def test_each_refusal_can_be_taken_by_each_of_its_names(self):
        for refusal in REFUSALS:
            for name in (refusal, YardError, ValueError):
                with self.assertRaises(name):
                    raise refusal("why")

    def test_their_names(self):
        names = [one.__name__ for one in (YardError,) + REFUSALS]
        self.assertEqual(names, ["YardError", "NoPattern", "NoText", "NoRoom"])


if __name__ == "__main__":
    unittest.main()
