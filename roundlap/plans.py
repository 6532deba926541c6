"""Gaps and plans: what is wrong with a plan for a gap, and the plan of going plainly."""

from roundlap.errors import NoGap, NoPlan
from roundlap.loops import checked, is_row, is_whole, needs

MOST_GAP = 200
MOST_TIME = 999


def checked_gap(gap):
    if not is_whole(gap, 1, MOST_GAP):
        raise NoGap("this is no gap")
    return gap


def is_plan(thing, many_works):
    return is_row(thing, many_works, many_works) and all([is_whole(begin, 0, MOST_TIME) for begin in thing])


def checked_plan(loop, plan):
    if not is_plan(plan, len(loop[2])):
        raise NoPlan("this is no plan of the loop")
    return plan


def checked_good_plan(loop, gap, plan):
    if fault(loop, gap, checked_plan(loop, plan)) is not None:
        raise NoPlan("this plan is not good for the gap")
    return plan


def waiting(loop, gap, plan, need):
    # How long the answer is there when the work behind begins: less than 0 if it is not there yet.
    answered = plan[need[0]] + loop[2][need[0]][1]
    return plan[need[1]] + need[2] * gap - answered


def busy_machines(loop, gap, plan, crew):
    busy = [0] * gap
    for begin, work in zip(plan, loop[2]):
        if work[0] == crew:
            # Busy longer than the gap, a work meets itself of the next round at the same rest, and counts again.
            for later in range(loop[1][crew][1]):
                rest = (begin + later) % gap
                busy[rest] = busy[rest] + 1
    return busy


def crowded_rest(loop, gap, plan, crew):
    for rest, busy in enumerate(busy_machines(loop, gap, plan, crew)):
        if busy > loop[1][crew][0]:
            return rest
    return None


def fault(loop, gap, plan):
    for need in needs(loop):
        if waiting(loop, gap, plan, need) < 0:
            return ("need", need)
    for crew in range(len(loop[1])):
        rest = crowded_rest(loop, gap, plan, crew)
        if rest is not None:
            return ("crew", crew, rest)
    return None


def wrong(loop, gap, plan):
    checked(loop)
    checked_gap(gap)
    return fault(loop, gap, checked_plan(loop, plan))


def plainly(loop):
    crews = checked(loop)[1]
    plan = []
    done = 0
    for work in loop[2]:
        plan.append(done)
        done = done + max(work[1], crews[work[0]][1])
    return (done, tuple(plan))
