import unittest

from stretchdeeds import errors

REFUSALS = [
    "NoText", "NotLetBy", "NoMake", "NoStretch", "NoValue", "NoDeed", "NoSign", "TooGreat", "NoRow",
]


class ErrorsTest(unittest.TestCase):
    def classes(self):
        return [getattr(errors, name) for name in REFUSALS]

    def test_stretch_error_stands_under_value_error(self):
        self.assertTrue(issubclass(errors.StretchError, ValueError))

    def test_each_refusal_stands_under_stretch_error_alone(self):
        for one in self.classes():
            self.assertTrue(issubclass(one, errors.StretchError), one)
            self.assertIsNot(one, errors.StretchError)
            for other in self.classes():
                self.assertEqual(issubclass(one, other), one is other, (one, other))

    def test_there_are_just_nine(self):
        found = [
            name for name, thing in vars(errors).items()
            if isinstance(thing, type) and issubclass(thing, errors.StretchError)
        ]
        self.assertEqual(sorted(found), sorted(REFUSALS + ["StretchError"]))

    def test_no_text_bears_at(self):
        for at in (0, 7, 6001):
            with self.assertRaises(errors.StretchError) as caught:
                raise errors.NoText(at)
            self.assertEqual(caught.exception.at, at)
        self.assertEqual(errors.NoText(at=3).at, 3)

    def test_not_let_by_bears_what(self):
        for what in (("nothing", 1), ("parting", 0, 1, 2), ("doing", "up", 0, 1, 2, 3)):
            with self.assertRaises(errors.StretchError) as caught:
                raise errors.NotLetBy(what)
            self.assertIs(caught.exception.what, what)
        self.assertEqual(errors.NotLetBy(what=("empty", "up")).what, ("empty", "up"))

    def test_the_others_are_made_with_nothing(self):
        for made in self.classes()[2:]:
            with self.assertRaises(made):
                raise made()


if __name__ == "__main__":
    unittest.main()
