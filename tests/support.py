"""What the tests share: comparing in the sense of point 5, and calls that must fail."""

import copy
import unittest


def exact(thing):
    """A form of the thing that is equal only for the same thing: True is not 1, and a list is no tuple."""
    if isinstance(thing, (list, tuple)):
        return (type(thing).__name__, [exact(part) for part in thing])
    if isinstance(thing, dict):
        return ("dict", sorted([(exact(key), exact(worth)) for key, worth in thing.items()], key=repr))
    return (type(thing).__name__, thing)


class StoreCase(unittest.TestCase):
    maxDiff = None

    def assertSame(self, got, wanted, told=None):
        # What is written in the same way is the same; the other way round, a dict may stand in another order.
        if repr(got) != repr(wanted) and exact(got) != exact(wanted):
            self.fail(f"got {got!r}, wanted {wanted!r}" + ("" if told is None else f" ({told!r})"))

    def assertFails(self, error, attributes, call, *rest, **more):
        """The call raises exactly this error with exactly these attributes."""
        try:
            result = call(*rest, **more)
        except ValueError as caught:
            self.assertIs(type(caught), error, f"{caught!r} {rest!r} {more!r}")
            for name, worth in attributes.items():
                self.assertSame(getattr(caught, name), worth, (name, rest, more))
            self.assertSame(caught.word, error.__name__)
        else:
            self.fail(f"{error.__name__} is not raised by {rest!r} {more!r}, but {result!r} returned")

    def assertCall(self, function, arguments, wanted):
        """By position, by name and a second time: the same result, new each time, and nothing passed in has changed."""
        before = copy.deepcopy(arguments)
        spoil(function(*arguments.values()))
        self.assertSame(function(*arguments.values()), wanted, arguments)
        self.assertSame(function(**arguments), wanted, arguments)
        backwards = dict(reversed(list(arguments.items())))
        self.assertSame(function(**backwards), wanted, arguments)
        self.assertSame(arguments, before)


def spoil(thing):
    """Change a list or dict, with all lists in it, as a caller may do with what was returned to it."""
    if isinstance(thing, (list, tuple)):
        for part in thing:
            spoil(part)
    if isinstance(thing, list):
        thing.reverse()
        thing.append("spoilt")
    if isinstance(thing, dict):
        thing["spoilt"] = "spoilt"
