"""[4]: the errors."""

import unittest

from heldplaces import errors

ONE = {
    "BadKind": "kind", "BadLine": "line", "Refused": "line", "BadPromise": "promise", "BadRule": "what",
    "BadSize": "size", "BadCount": "many", "BadNumber": "number", "BadPage": "page", "BadCase": "case",
    "BadHanded": "handed", "BadOutcomes": "word", "BadKey": "key", "BadLength": "length", "BadLives": "lives",
    "BadName": "name", "NoCursor": "cursor", "BadSum": "text", "OtherKinds": "part", "OtherRules": "part",
    "Broken": "part",
}
VALUES = [3, -1, 10 ** 5000, True, None, "word", b"x", (1, 2), [1], {"a": 1}, {1}, 1.5, object(), ValueError]


class TestErrors(unittest.TestCase):
    def test_attributes_are_what_was_handed_in(self):
        for name, attribute in ONE.items():
            for value in VALUES:
                error = getattr(errors, name)(value)
                self.assertIs(getattr(error, attribute), value)
                self.assertIs(getattr(getattr(errors, name)(**{attribute: value}), attribute), value)
                self.assertIsInstance(str(error), str)

    def test_too_many(self):
        for value in VALUES:
            error = errors.TooMany(value, 41, value)
            self.assertIs(error.what, value)
            self.assertEqual(error.many, 41)
            self.assertIs(error.most, value)

    def test_without_attributes(self):
        for error in (errors.OtherFactors(), errors.Beyond()):
            self.assertIsInstance(error, errors.HeldError)
        self.assertRaises(TypeError, errors.OtherFactors, 1)

    def test_direct_subclasses(self):
        self.assertEqual(errors.HeldError.__bases__, (ValueError,))
        names = sorted(list(ONE) + ["OtherFactors", "Beyond", "TooMany"])
        self.assertEqual(names, sorted(one.__name__ for one in errors.HeldError.__subclasses__()))
        for name in names:
            self.assertEqual(getattr(errors, name).__bases__, (errors.HeldError,))


if __name__ == "__main__":
    unittest.main()
