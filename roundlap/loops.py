"""What a loop is, and what its works need of one another.

Things of any kind come in here, so each part's kind is asked ahead of anything else about it.
"""

from roundlap.errors import NoLoop

REST = 9973
MOST_STREAMS = 6
MOST_CREWS = 3
MOST_MACHINES = 3
MOST_BUSY = 4
MOST_WORKS = 8
MOST_LONG = 8
MOST_SOURCES = 3
MOST_BACK = 3
WORDS = ("plus", "less", "times", "least", "greatest")


def is_whole(thing, low, high):
    # To Python True and False are whole numbers, to the document they are none.
    if not isinstance(thing, int) or isinstance(thing, bool):
        return False
    return low <= thing <= high


def is_value(thing):
    return is_whole(thing, 0, REST - 1)


def is_row(thing, low, high):
    return isinstance(thing, tuple) and low <= len(thing) <= high


def is_crew(thing):
    return is_row(thing, 2, 2) and is_whole(thing[0], 1, MOST_MACHINES) and is_whole(thing[1], 1, MOST_BUSY)


def are_crews(thing):
    return is_row(thing, 1, MOST_CREWS) and all([is_crew(crew) for crew in thing])


def is_work_source(thing, own, many_works):
    if not is_row(thing, 3, 3) or not is_whole(thing[2], 0, MOST_BACK):
        return False
    # Within a round works are done by their numbers, so an answer of the same round must be an earlier work's.
    beyond = own if thing[2] == 0 else many_works
    return is_whole(thing[1], 0, beyond - 1)


def is_source(thing, own, many_works, streams):
    if not is_row(thing, 2, 3) or not isinstance(thing[0], str):
        return False
    if thing[0] == "work":
        return is_work_source(thing, own, many_works)
    if len(thing) != 2:
        return False
    if thing[0] == "input":
        return is_whole(thing[1], 0, streams - 1)
    return thing[0] == "value" and is_value(thing[1])


def are_starts(thing):
    return is_row(thing, MOST_BACK, MOST_BACK) and all([is_value(start) for start in thing])


def is_work(thing, own, many_works, streams, many_crews):
    if not is_row(thing, 5, 5):
        return False
    if not is_whole(thing[0], 0, many_crews - 1) or not is_whole(thing[1], 1, MOST_LONG):
        return False
    if not isinstance(thing[2], str) or thing[2] not in WORDS:
        return False
    sources = thing[3]
    if not is_row(sources, 1, MOST_SOURCES) or not are_starts(thing[4]):
        return False
    return all([is_source(source, own, many_works, streams) for source in sources])


def are_works(thing, streams, many_crews):
    if not is_row(thing, 1, MOST_WORKS):
        return False
    many_works = len(thing)
    return all([is_work(work, own, many_works, streams, many_crews) for own, work in enumerate(thing)])


def are_outs(thing, many_works):
    if not is_row(thing, 1, many_works):
        return False
    least = 0
    for number in thing:
        if not is_whole(number, least, many_works - 1):
            return False
        least = number + 1
    return True


def is_loop(thing):
    if not is_row(thing, 4, 4):
        return False
    if not is_whole(thing[0], 0, MOST_STREAMS) or not are_crews(thing[1]):
        return False
    return are_works(thing[2], thing[0], len(thing[1])) and are_outs(thing[3], len(thing[2]))


def checked(loop):
    if not is_loop(loop):
        raise NoLoop("this is no loop")
    return loop


def needs(loop):
    works = checked(loop)[2]
    found = []
    for behind, work in enumerate(works):
        found.extend([(source[1], behind, source[2]) for source in work[3] if source[0] == "work"])
    return sorted(set(found))
