"""[31], [4]: the error classes."""

import unittest

from heldback import errors
from samples import ANYTHING, BIG

PARAMETERS = {
    "BadPart": ["path"],
    "NoPath": ["path"],
    "NotName": ["key"],
    "NotNumber": ["value"],
    "NotTruth": ["value"],
    "BadUse": ["index"],
    "Over": [],
    "Uncaught": ["word"],
    "NoAnswer": [],
    "BadWish": [],
    "NoSave": ["save"],
    "NoSquare": ["square"],
    "UnlikeTables": [],
    "NoWay": ["way"],
    "Uneven": ["way"],
    "BadPile": ["index"],
    "NoRule": ["rule"],
    "NoFit": ["rule", "path"],
    "BadText": ["line"],
}

OBJECTS = ANYTHING + [0, -1, BIG, "name", {}, {"a": 1}, {(1, (2,)): [3], None: {True: ()}}, "a\nb", "~" * 4000]


def made(name):
    """An error of the class."""
    return getattr(errors, name)(*PARAMETERS[name])


class TestErrors(unittest.TestCase):

    def test_direct_subclasses(self):
        self.assertEqual(errors.HeldError.__bases__, (ValueError,))
        for name in PARAMETERS:
            with self.subTest(name):
                self.assertEqual(getattr(errors, name).__bases__, (errors.HeldError,))
                self.assertEqual(getattr(errors, name).__name__, name)
                self.assertEqual(getattr(errors, name).__module__, "heldback.errors")

    def test_there_are_no_others(self):
        self.assertEqual({kind.__name__ for kind in errors.HeldError.__subclasses__()}, set(PARAMETERS))

    def test_by_place(self):
        for name, parameters in PARAMETERS.items():
            for thing in OBJECTS:
                with self.subTest(name, thing=thing):
                    error = getattr(errors, name)(*[thing for _ in parameters])
                    for parameter in parameters:
                        self.assertEqual(getattr(error, parameter), thing)
                        self.assertIs(type(getattr(error, parameter)), type(thing))

    def test_by_name(self):
        for name, parameters in PARAMETERS.items():
            for thing in OBJECTS:
                with self.subTest(name, thing=thing):
                    error = getattr(errors, name)(**{parameter: thing for parameter in parameters})
                    for parameter in parameters:
                        self.assertEqual(getattr(error, parameter), thing)

    def test_the_two_parameters_of_no_fit(self):
        for error in (errors.NoFit("bare", (0,)), errors.NoFit("bare", path=(0,)), errors.NoFit(path=(0,), rule="bare")):
            self.assertEqual((error.rule, error.path), ("bare", (0,)))

    def test_parameters_are_needed(self):
        for name, parameters in PARAMETERS.items():
            with self.subTest(name):
                if parameters:
                    self.assertRaises(TypeError, getattr(errors, name))
                self.assertRaises(TypeError, getattr(errors, name), *[1 for _ in parameters], 1)

    def test_none_is_another_one(self):
        for name in PARAMETERS:
            error = made(name)
            self.assertIsInstance(error, errors.HeldError)
            self.assertIsInstance(error, ValueError)
            for other in PARAMETERS:
                self.assertEqual(isinstance(error, getattr(errors, other)), name == other, (name, other))

    def test_raised_and_caught(self):
        for name in PARAMETERS:
            for caught in (getattr(errors, name), errors.HeldError, ValueError):
                with self.assertRaises(caught) as held:
                    raise made(name)
                for parameter in PARAMETERS[name]:
                    self.assertEqual(getattr(held.exception, parameter), parameter)

    def test_arguments_are_copied(self):
        for name, parameters in PARAMETERS.items():
            inner = [1]
            thing = [inner, {"a": inner}, (inner,)]
            error = getattr(errors, name)(*[thing for _ in parameters])
            thing.append(2)
            inner.append(2)
            for parameter in parameters:
                self.assertEqual(getattr(error, parameter), [[1], {"a": [1]}, ([1],)])

    def test_a_dict_is_copied(self):
        thing = {"a": [1]}
        error = errors.NotName(thing)
        thing["b"] = 2
        thing["a"].append(3)
        self.assertEqual(error.key, {"a": [1]})

    def test_messages(self):
        for name in PARAMETERS:
            self.assertTrue(str(made(name)))


if __name__ == "__main__":
    unittest.main()
