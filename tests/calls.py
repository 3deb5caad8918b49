"""Checks of what calls do with wrong arguments, by position and by name."""

NO_NUMBERS = (None, True, False, "1", "", b"1", (), (1,), [1], {}, {1}, object(), len, 10 ** 59, -1)
NO_STRINGS = (None, True, False, 0, 1, -7, b"a", (), ("a",), [], ["a"], {}, {"a"}, object(), len)
NO_TUPLES = (None, True, False, 0, 1, "", "a", b"a", [], ["a"], {}, set(), object(), len)
NO_OBJECTS = (None, True, False, 0, 1, "", "a", b"a", (), ("a",), [], {}, set(), object(), len, int)


class Same:
    """Stands for the very value that was passed."""


def given(error, *values):
    """Wrong values for an argument, each of which the error tells as `given`."""
    return [(value, error, {"given": Same}) for value in values]


def indexed(error, index, *values):
    """Wrong values for an argument, for each of which the error tells this index."""
    return [(value, error, {"index": index}) for value in values]


def raised(call, *args, **named):
    """The error that a call raises, None if it raises none."""
    try:
        call(*args, **named)
    except ValueError as error:
        return error
    return None


def check_error(test, error, kind, told, value):
    test.assertIsNotNone(error, f"nothing raised for {value!r}")
    test.assertIs(type(error), kind, f"{error!r} for {value!r}")
    test.assertEqual(set(vars(error)), set(told))
    for name, expected in told.items():
        if expected is Same:
            test.assertIs(getattr(error, name), value)
        else:
            test.assertEqual(getattr(error, name), expected)
            test.assertIs(type(getattr(error, name)), type(expected))


def check_calls(test, call, *arguments):
    """Checks a call's errors. Each argument is (NAME, GOOD VALUE, WRONG VALUES as given or indexed make them)."""
    names = [name for name, _, _ in arguments]
    goods = [good for _, good, _ in arguments]
    worst = [wrongs[0][0] if wrongs else good for _, good, wrongs in arguments]
    call(*goods)
    call(**dict(zip(names, goods)))
    for at, (name, _, wrongs) in enumerate(arguments):
        for value, kind, told in wrongs:
            with test.subTest(call=call, argument=name, value=repr(value)[:80]):
                passed = goods[:at] + [value] + goods[at + 1:]
                check_error(test, raised(call, *passed), kind, told, value)
                backwards = dict(reversed(list(zip(names, passed))))
                check_error(test, raised(call, **backwards), kind, told, value)
                # With all that stand behind it wrong, too, this one is told.
                passed = goods[:at] + [value] + worst[at + 1:]
                check_error(test, raised(call, *passed), kind, told, value)
                check_error(test, raised(call, **dict(zip(names, passed))), kind, told, value)


def fresh(make, name, look):
    """A call of a method of a new object each time; behind an error all that is looked at is as it was."""
    def call(*args, **named):
        thing = make()
        before = look(thing)
        try:
            return getattr(thing, name)(*args, **named)
        except ValueError:
            assert look(thing) == before, f"{name} changed something and raised an error"
            raise
    return call


def told_by(call, *args, **named):
    """What a call returns, or the pair of the class of its error and of what the error tells."""
    try:
        return call(*args, **named)
    except ValueError as error:
        return type(error), vars(error)
