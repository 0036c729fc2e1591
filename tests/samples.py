"""Things to hand in where a test needs "whatever is handed in"."""

GREATEST = 10 ** 60 - 1  # sixty figures
TOO_LONG = 10 ** 60  # sixty-one figures
LONG_END = 10 ** 300 - 1  # three hundred figures


def deep_list(inner, deep):
    for step in range(deep):
        inner = [inner]
    return inner


def deep_tuple(inner, deep):
    for step in range(deep):
        inner = (inner,)
    return inner


def deep_dict(inner, deep):
    for step in range(deep):
        inner = {"a": inner}
    return inner


def deep_mixed(inner, deep):
    for step in range(deep):
        inner = ([inner], (inner,), {1: inner})[step % 3]
    return inner


def plain_things():
    return [
        None, True, False, 0, 1, -1, 7, GREATEST, -GREATEST, TOO_LONG, -TOO_LONG, LONG_END, 10 ** 5000, -10 ** 5000,
        "", "a", "ab", "12", "(1, 2)", "abcdefgh", "A", " ", "\n", "\u00e9", "\u0661", "\u212a",
    ]


def nested_things():
    return [
        [], (), {}, [1], (1,), [1, 2], {1: 2}, {0: 1, 1: 2}, {"a": [1, (2, None)]}, [(1, 2)], ((1, 2),),
        ((1, 2), (3, 4)), [None], (None,), (None, None), ([], []), ({}, {}),
        deep_list(1, 200), deep_tuple(1, 199), deep_dict(1, 200), deep_mixed(None, 200),
        deep_tuple((), 199), deep_list([], 199), deep_dict({}, 199),
    ]


def whatever():
    return plain_things() + nested_things()


def no_whole_numbers():
    return [None, True, False, "", "1", "a", [], [1], (), (1,), {}, {1: 1}] + nested_things()
