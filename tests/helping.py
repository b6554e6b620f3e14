"""What several test files use: signatures, refusals and things that stay as they were."""

import copy
import inspect

GREAT = 123456789012345678901234567890
NO_PRIMES = (-7, 0, 1, 2, 4, 9, 63, 67, GREAT)


def signature(function):
    """The parameters as (name, "place" or "name", default or None)."""
    found = []
    for each in inspect.signature(function).parameters.values():
        kind = "name" if each.kind == inspect.Parameter.KEYWORD_ONLY else "place"
        default = None if each.default is inspect.Parameter.empty else each.default
        found.append((each.name, kind, default))
    return found


def places(*names):
    """The signature of a function with these parameters and the prime behind `*`."""
    return [(name, "place", None) for name in names] + [("prime", "name", 31)]


def same_kinds(one, other):
    """Whether both are equal and made of the same kinds throughout (True is not 1)."""
    if type(one) is not type(other):
        return False
    if isinstance(one, (list, tuple)):
        return len(one) == len(other) and all(map(same_kinds, one, other))
    return one == other


def spoil(thing):
    """Change every list in it, at every depth."""
    if isinstance(thing, (list, tuple)):
        for inner in thing:
            spoil(inner)
    if isinstance(thing, list):
        thing.reverse()
        thing.append(97)


class Checks:
    """Checks beside those of unittest.TestCase."""

    def refuses(self, error, function, *things, **named):
        """The call is refused with this very class, and changes nothing that was handed in."""
        before = copy.deepcopy((things, named))
        with self.assertRaises(error) as caught:
            function(*things, **named)
        self.assertIs(type(caught.exception), error)
        self.assertEqual(caught.exception.word, error.__name__)
        self.assertTrue(same_kinds(before[0], things))
        self.assertEqual(before[1], named)

    def tells(self, wanted, function, *things, **named):
        """The call tells this, of the same kinds throughout."""
        told = function(*things, **named)
        self.assertTrue(same_kinds(wanted, told), f"{function.__name__}{things}{named}: {told!r}, not {wanted!r}")

    def keeps(self, function, *things, **named):
        """Nothing handed in is changed or handed back, and a changed answer changes no later one."""
        before = copy.deepcopy(things)
        first = function(*things, **named)
        self.assertIs(type(first), list)
        kept = list(first)
        self.assertTrue(same_kinds(before, things))
        first.append(99)
        first[0] = 98
        self.assertTrue(same_kinds(before, things))
        self.assertEqual(function(*things, **named), kept)
        # A later change of what was handed in changes no answer that was told before.
        second = function(*things, **named)
        for thing in things:
            if isinstance(thing, list) and thing:
                thing[0] = (thing[0] + 1) % 3
        self.assertEqual(second, kept)

    def keeps_within(self, function, *things, **named):
        """As keeps, of lists within lists and tuples too, whatever is told."""
        before = copy.deepcopy(things)
        first = function(*things, **named)
        kept = copy.deepcopy(first)
        spoil(first)
        self.assertTrue(same_kinds(before, things))
        self.tells(kept, function, *things, **named)
        second = function(*things, **named)
        spoil(things)
        self.assertTrue(same_kinds(kept, second))


def methods(cls):
    """The names of the methods that the class itself defines."""
    return {name for name, thing in vars(cls).items() if inspect.isfunction(thing)}


def plain(function):
    """The signature's (name, default) of a method or function without anything behind `*`, its own object left out."""
    found = signature(function)
    assert all(kind == "place" for name, kind, default in found), found
    return [name for name, kind, default in found if name != "self"]
