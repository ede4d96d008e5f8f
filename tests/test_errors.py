"""The errors: point 1 and the heading stairyard/errors.py."""

import inspect
import unittest

from stairyard import errors

TOLD = {
    "BadUnits": ("value",), "BadRow": ("value",), "BadRows": ("place",), "BadStair": ("value",),
    "BadNumbers": ("value",), "BadUnit": ("value",), "BadFormula": ("path",), "BadRule": ("place",),
    "BadTree": ("path",), "BadPlan": ("path",), "BadWorld": ("place",), "BadWords": ("place",),
    "BadWheel": ("place",), "BadJoins": ("path",), "BadDraw": ("path",), "BadSteps": ("place",),
    "BadText": ("line", "word"), "BadDeed": ("place",), "BadIndex": ("value",), "BadParameter": ("value",),
    "NoRow": (), "Unlike": ("value",), "TooGreat": ("most",), "NothingBack": (),
}


class Errors(unittest.TestCase):
    def test_one_error_is_above_all_others(self):
        self.assertEqual(errors.YardError.__bases__, (ValueError,))
        for name in TOLD:
            self.assertEqual(getattr(errors, name).__bases__, (errors.YardError,), name)

    def test_there_are_just_these(self):
        classes = [name for name, value in vars(errors).items() if inspect.isclass(value)]
        self.assertEqual(sorted(classes), sorted([*TOLD, "YardError"]))
        for name in classes:
            self.assertEqual(getattr(errors, name).__module__, "stairyard.errors")

    def test_each_argument_is_an_attribute(self):
        nest = ()
        for _ in range(100000):
            nest = (nest,)
        for value in (5, None, [1], (1, (2,)), {"a": []}, object(), "x", -10 ** 5000, nest):
            for name, parameters in TOLD.items():
                with self.subTest(name=name):
                    by_position = getattr(errors, name)(*[value for _ in parameters])
                    by_name = getattr(errors, name)(**{parameter: value for parameter in parameters})
                    for error in (by_position, by_name):
                        self.assertEqual(sorted(vars(error)), sorted(parameters))
                        self.assertTrue(all(getattr(error, parameter) is value for parameter in parameters))
                        self.assertTrue(str(error))

    def test_arguments_in_their_order(self):
        error = errors.BadText(3, 7)
        self.assertEqual((error.line, error.word), (3, 7))

    def test_each_asks_for_its_arguments(self):
        for name, parameters in TOLD.items():
            self.assertEqual(tuple(inspect.signature(getattr(errors, name)).parameters), parameters)
            with self.assertRaises(TypeError):
                getattr(errors, name)(*[0 for _ in parameters], 0)


if __name__ == "__main__":
    unittest.main()
