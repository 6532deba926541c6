"""Loops that do several rounds of another loop in one."""

from roundlap.errors import NoRounds, TooBig
from roundlap.loops import MOST_BACK, MOST_STREAMS, MOST_WORKS, checked, is_whole

MOST_UNROLLED = 3


def checked_times(times):
    if not is_whole(times, 2, MOST_UNROLLED):
        raise NoRounds("a loop is not unrolled by this")
    return times


def moved_source(loop, times, part, source):
    # The new rounds are counted by whole times: part is the old round's number within its new round.
    if source[0] == "value":
        return source
    if source[0] == "input":
        return ("input", part * loop[0] + source[1])
    meant = part - source[2]
    return ("work", (meant % times) * len(loop[2]) + source[1], -(meant // times))


def start_of(starts, number):
    return starts[-1 - number] if number >= -MOST_BACK else 0


def moved_work(loop, times, part, work):
    sources = tuple([moved_source(loop, times, part, source) for source in work[3]])
    starts = tuple([start_of(work[4], part - back * times) for back in range(1, MOST_BACK + 1)])
    return (work[0], work[1], work[2], sources, starts)


def unrolled(loop, times):
    many_works = len(checked(loop)[2])
    checked_times(times)
    if many_works * times > MOST_WORKS or loop[0] * times > MOST_STREAMS:
        raise TooBig("the unrolled loop is beyond the bounds")
    works = []
    outs = []
    for part in range(times):
        works.extend([moved_work(loop, times, part, work) for work in loop[2]])
        outs.extend([part * many_works + number for number in loop[3]])
    return (loop[0] * times, loop[1], tuple(works), tuple(outs))


def rows_together(rows, times):
    told = []
    joined = ()
    many = 0
    for row in rows:
        joined = joined + row
        many = many + 1
        if many == times:
            told.append(joined)
            joined = ()
            many = 0
    return told
