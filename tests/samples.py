"""Values that several tests use."""

# How deep "any value" may be nested.
DEEPEST = 30


def nested(depth, wrap, core):
    """The core, wrapped so many times."""
    value = core
    for _ in range(depth):
        value = wrap(value)
    return value


def deep_values():
    """Values of every kind of nesting, as deep as they may be."""
    return [
        nested(DEEPEST, lambda value: [value], 1),
        nested(DEEPEST, lambda value: (value,), "A1"),
        nested(DEEPEST, lambda value: {"A1": value}, None),
        nested(DEEPEST // 3, lambda value: [({(0, 0): value},)], True),
        nested(DEEPEST, lambda value: ("negate", value), ("number", 1)),
        nested(DEEPEST // 2, lambda value: ("call", "SUM", (value,)), ("number", 1)),
        nested(DEEPEST, lambda value: ("binary", "+", value, ("number", 1)), ("number", 1)),
        nested(DEEPEST, lambda value: ("number", value), 1),
        nested(DEEPEST, lambda value: ("cell", value, 1), 1),
    ]


def flat_values():
    """Values that are neither the name of a cell or area nor an expression."""
    return [
        0, 1, -1, 11, 12, 10 ** 9, 10 ** 60 - 1, -(10 ** 60 - 1), True, False, None,
        "", " ", "\n", "x", "number", "#REF", "~",
        (), [], {}, (0,), (0, 0), [0, 0], (0, 0, 0, 0), [0, 0, 0, 0],
        ("A1",), ["A1"], {"A1": "A1"}, {0: 0}, {(0, 0): ("number", 1)},
        [("number", 1)], (("number", 1),) * 4, {"number": 1}, ["number", 1],
    ]


def any_values():
    """Values of all kinds, flat and as deep as they may be."""
    return flat_values() + deep_values()
