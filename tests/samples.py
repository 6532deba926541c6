"""Loops and wrong things that several tests use."""

LOOP = (
    2,
    ((1, 2), (2, 1)),
    (
        (0, 3, "plus", (("input", 0), ("value", 5)), (1, 2, 3)),
        (1, 1, "times", (("work", 0, 0), ("work", 1, 1), ("input", 1)), (4, 5, 6)),
        (0, 2, "less", (("work", 2, 3), ("work", 1, 0)), (7, 8, 9)),
    ),
    (0, 2),
)


class Hostile:
    """Nothing but its kind may be asked of it."""

    def fail(self, *others):
        raise RuntimeError("a thing of an unknown kind was used")

    __eq__ = __ne__ = __lt__ = __le__ = __gt__ = __ge__ = fail
    __hash__ = __len__ = __iter__ = __getitem__ = __bool__ = __index__ = __contains__ = fail


# No part of a loop may be any of these.
STRANGE = [None, "x", "", [], [1], {}, {0: 1}, set(), 1.0, 0.0, float("nan"), 1j, b"plus", object(), len, Hostile(), ()]


def work(sources=(("value", 1),), starts=(0, 0, 0), doing="plus", crew=0, long=1):
    return (crew, long, doing, sources, starts)


def loop_of(works, outs=None, streams=0, crews=((1, 1),)):
    works = tuple(works)
    return (streams, crews, works, tuple(range(len(works))) if outs is None else outs)


def part_of(thing, path):
    for step in path:
        thing = thing[step]
    return thing


def replaced(thing, path, part):
    """The tuple `thing` with another part at the path."""
    if not path:
        return part
    step = path[0]
    return thing[:step] + (replaced(thing[step], path[1:], part),) + thing[step + 1:]


def paths(thing, here=()):
    """The path of every part of a tuple, the whole first."""
    found = [here]
    if isinstance(thing, tuple):
        for step, part in enumerate(thing):
            found.extend(paths(part, here + (step,)))
    return found


def paths_of(thing, kind):
    return [path for path in paths(thing) if isinstance(part_of(thing, path), kind)]


def rebuilt(thing):
    """An equal tuple that shares no tuple with the one handed in."""
    return tuple([rebuilt(part) for part in thing]) if isinstance(thing, tuple) else thing
