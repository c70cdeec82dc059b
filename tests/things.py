"""Odd values for parameters that accept any value."""

from yesifs import errors

CELLS = (("add", "get"), (("add", "get"),))
SOME = (("firm", 1, ()), ("firm", 2, (1,)), ("firm", 3, (2, 7)), ("dropped", 4), ("firm", 5, (4,)),
        ("firm", 8, (9,)), ("firm", 9, (8,)))


def nested(depth):
    thing = 1
    for level in range(depth):
        thing = (thing,) if level % 2 else [thing]
    return thing


def plain_things():
    """Values that are no table, no facts, no fact and no certificate."""
    return [
        None, True, False, 0, 1, -1, 10 ** 39, -(10 ** 39), "", "a", "kept", "firm", "a b\n~", "z" * 1000,
        [], {}, [1], {"a": 1}, {1: {2: [3]}}, (None,), (True,), (1,), ((),), ([],), ({},), ("a",),
        ("firm",), ("dropped",), ("kept",), ("open",), (1, 2), ("a", "b"), ((), []), ([], ()), (1, 2, 3),
        ((), (), ()), ({}, {}), (None, None), (True, False), nested(10), tuple(range(2000)), ["firm", 1, ()],
        errors.BadTable(3), (errors.IsRight(), ()), [errors.YesError()], ((errors.Clash(1),), ()),
        ("firm", [], ()), ("dropped", {}), ("firm", 1, [2]), ("firm", 1, ([],)), ("dropped", None), ([], 1),
        ({}, 1, ()), ("kept", [1]), ("kept", 1), ("dropped", ([],)), ("open", [], {}), ("open", ({},), ([],)),
    ]


def altered(thing):
    """All values that come from a nested tuple by changing one of its parts."""
    if not isinstance(thing, tuple):
        yield from [None, True, False, -1, "", [thing], (thing,), {}, str(thing), errors.YesError()]
        if isinstance(thing, int):
            yield from [thing + 1, thing - 1, bool(thing)]
        if isinstance(thing, str):
            yield from [thing + "a", thing.upper(), thing + "\n", thing[:-1]]
        return
    yield list(thing)
    yield thing + thing[-1:]
    yield thing + (None,)
    yield thing[::-1]
    for at, part in enumerate(thing):
        yield thing[:at] + thing[at + 1:]
        yield thing[:at] + (part, part) + thing[at + 1:]
        for other in altered(part):
            yield thing[:at] + (other,) + thing[at + 1:]
