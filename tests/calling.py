"""Calls that are looked at from outside: arguments stay as they were, and equal arguments tell the same."""

import copy


def called(test, function, *arguments):
    """What a function returns, looked at."""
    kept = copy.deepcopy(arguments)
    first = function(*arguments)
    test.assertEqual(arguments, kept)
    copied = copy.deepcopy(first)
    second = function(*arguments)
    test.assertEqual(second, copied)
    test.assertEqual(first, copied)
    test.assertEqual(arguments, kept)
    return first


def is_true(test, function, *arguments):
    """Asserts that a function returns just True."""
    test.assertIs(called(test, function, *arguments), True)


def is_false(test, function, *arguments):
    """Asserts that a function returns just False."""
    test.assertIs(called(test, function, *arguments), False)


def with_item(told, at, item):
    """A list or tuple with another item at an index."""
    made = list(told)
    made[at] = item
    return type(told)(made) if isinstance(told, tuple) else made
