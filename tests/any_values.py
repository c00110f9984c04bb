"""Values of any kind, as point [2] allows them where an error is described for an argument."""


def nested(depth, value):
    """value inside of as many tuples and lists, in turn."""
    for at in range(depth):
        value = (value,) if at % 2 else [value]
    return value


def listed(value):
    """The value with lists in place of all tuples in it."""
    if isinstance(value, (list, tuple)):
        return [listed(part) for part in value]
    return value


HUGE = 10 ** 400 - 1

GOOD_WORDS = ["a", "z", "i", "a0", "z9", "abcdefgh", "a1234567", "x0y", "sum", "blocks"]

# Signs that Python takes for letters or digits although they are not from a to z or 0 to 9 are among them.
BAD_WORDS = [
    "", "A", "aB", "1", "1a", "0", "abcdefghi", "a12345678", "a_b", "_a", "a b", " a", "a ", "a\n", "\n", "a-b",
    "-", "a,b", "a:b", "\u00e9", "a\u00e9", "a\u00b2", "a\u0663", "\uff41", "a`", "`", "a{", "{", "a/", "a;", "a\x00",
]

NO_ROWS = [None, True, False, 0, 1, -1, 3, HUGE, -HUGE, "", "a", "i", "ab", "input", "abc"]

NO_INTEGERS = [None, True, False, "", "1", "a", (), [], (1,), [1], nested(10, 1)]

NO_WORDS = BAD_WORDS + [None, True, False, 0, 1, -1, HUGE, (), [], ("a",), ["a"], [["a"]], nested(10, "a")]

ODD_ROWS = [
    [None], (None,), [True], [[]], ((),), [()], ["a"], ("ab",), ["ab", "cd"], [0], (1, 2), [[1, 2]], [["a"]],
    [("a", 2, 3)], [("a",)], [(2, "a")], ("a", 2), ["a", 2], nested(10, None), nested(10, "a"), nested(10, ()),
    tuple(range(200)), [None] * 200, [[]] * 199,
]

ANY_VALUES = NO_ROWS + NO_WORDS + NO_INTEGERS + ODD_ROWS
