"""Any values: one of each kind, and right values with one part changed."""

from itertools import combinations


def nest(depth, wrap):
    value = wrap(0)
    for _ in range(depth - 1):
        value = wrap(value)
    return value


JUNK = [
    None, True, False, 0, 1, 2, -1, 15, 16, 10 ** 30 - 1, 1 - 10 ** 30,
    "", "0", "None", "a b\nc ~", "x" * 400,
    (), [], {}, (0,), [0], {"a": 0}, (None,), (0, ()), (1, ()), [1, ()], (1, []), (True, ()), ((), 1), ((1, ()),),
    (None, None), (None, 0), {"0": (None,)}, ((None,), (0, ())),
    nest(40, lambda part: (part,)), nest(40, lambda part: [part]), nest(40, lambda part: {"a": part}),
    nest(40, lambda part: (1, (part,))), nest(60, lambda part: (part, part)[:1]),
    (None,) * 4000, (0,) * 3999, [0] * 3999,
    tuple((k, ()) for k in range(1000)), (1, tuple((k, ()) for k in range(1000))),
    tuple("abc") * 1000, {str(k): k for k in range(2000)},
]

FEW = [None, True, False, 0, 1, -1, 10 ** 30 - 1, "1", (), [], {}, (0,), (1, ()), nest(40, lambda part: (part,))]


def changed(value, junk):
    """Yield the value with one part replaced, removed, repeated or exchanged, at any depth."""
    yield from junk
    if type(value) is int:
        yield from (value - 1, value + 1, -value, str(value), (value,))
        if value in (0, 1):
            yield bool(value)
    if type(value) is tuple:
        yield list(value)
        yield value + (None,)
        for at, part in enumerate(value):
            yield value[:at] + value[at + 1:]
            yield value[:at] + (part, part) + value[at + 1:]
            for other in changed(part, junk):
                yield value[:at] + (other,) + value[at + 1:]
        for low, high in combinations(range(len(value)), 2):
            parts = list(value)
            parts[low], parts[high] = parts[high], parts[low]
            yield tuple(parts)
