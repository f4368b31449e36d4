"""What several test files share."""


def not_texts():
    return [
        None, True, False, 0, 1, 7, -1, 10 ** 59, 10 ** 5000, 1.5, float("nan"), b"", b"a", [], ["a"], (), ("a",),
        {}, {"a": "a"}, set(), {"a"}, object(), str, len, range(3), NotImplemented, ...,
    ]


def not_lists():
    return [thing for thing in not_texts() if not isinstance(thing, list)] + ["", "a", "word", "town"]


def refused(test, error, deed, *things):
    """The error that the deed raises: of just that class, not of one under it."""
    with test.assertRaises(error) as caught:
        deed(*things)
    test.assertIs(type(caught.exception), error)
    return caught.exception
