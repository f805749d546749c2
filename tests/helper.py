"""What the test files share."""

import copy
import inspect
import unittest

# None of these is a fraction, labels or an integer other than by mistake.
OTHER_KINDS = (
    None,
    True,
    False,
    "",
    "0",
    "1/2",
    "(0, 1)",
    "a" * 600,
    "two\nlines",
    [],
    [0],
    [0, 1],
    [1, 2],
    [(0, 1)],
    [[0, 1], [1, 2]],
    {},
    {0: 1},
    {"top": 1, "bottom": 2},
    {(0, 1): [None]},
    (),
    (None,),
    ("0",),
    ("0", "1"),
    (1, "2"),
    ("1", 2),
    (None, 1),
    (0, None),
    ([0], 1),
    (0, [1]),
    ((0, 1),),
    ((0, 1), (1, 2)),
    ({}, {}),
    ([[[[[[[0]]]]]]],),
    tuple([0, [1, {"a": (None, True)}]] * 500),
)


def alike(one, other):
    """Return whether two values are equal element by element, kinds included."""
    if type(one) is not type(other):
        return False
    if isinstance(one, (list, tuple)):
        return len(one) == len(other) and all(map(alike, one, other))
    if isinstance(one, dict):
        return alike(list(one.items()), list(other.items()))
    return one == other


class PromiseCase(unittest.TestCase):
    """A test case whose calls also check what holds of every call."""

    def assert_alike(self, got, wanted, told=""):
        self.assertTrue(alike(got, wanted), f"{told}: {got!r} instead of {wanted!r}")

    def call(self, function, *arguments):
        """Call twice: the answers are alike and the arguments stay as they were."""
        before = copy.deepcopy(arguments)
        answer = function(*arguments)
        self.assert_alike(function(*arguments), answer, f"second call with {arguments!r}")
        self.assert_alike(arguments, before, "arguments after the call")
        return answer

    def gives(self, wanted, function, *arguments):
        told = f"{function.__name__}{arguments!r}"
        self.assert_alike(self.call(function, *arguments), wanted, told)

    def refuses(self, error, function, *arguments):
        """The call raises exactly this error, each time, and changes nothing."""
        before = copy.deepcopy(arguments)
        for _ in range(2):
            with self.subTest(function=function.__name__, arguments=arguments):
                with self.assertRaises(error) as caught:
                    function(*arguments)
                self.assertIs(type(caught.exception), error)
        self.assert_alike(arguments, before, "arguments after the error")

    def has_interface(self, module, signatures):
        """The module itself defines these functions with these parameters."""
        for name, parameters in signatures.items():
            function = getattr(module, name)
            self.assertTrue(inspect.isfunction(function), name)
            self.assertEqual(function.__module__, module.__name__)
            self.assertEqual(str(inspect.signature(function)), parameters, name)
