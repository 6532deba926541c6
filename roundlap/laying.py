"""Rounds laid over one another: which works begin at which time, and the beginning, middle and end of it."""

from roundlap.errors import NoRounds
from roundlap.loops import checked, is_whole
from roundlap.plans import checked_gap, checked_good_plan
from roundlap.values import MOST_ROUNDS


def checked_rounds(rounds):
    if not is_whole(rounds, 0, MOST_ROUNDS):
        raise NoRounds("this is no number of rounds")
    return rounds


def many_times(gap, plan, rounds):
    if rounds == 0:
        return 0
    return gap * (rounds - 1) + max(gap, max(plan) + 1)


def laid_out(gap, plan, rounds):
    times = [[] for time in range(many_times(gap, plan, rounds))]
    # Works come by their numbers, and one begins at a time but once, so what a time gets is rising.
    for own, begin in enumerate(plan):
        for number in range(rounds):
            times[number * gap + begin].append((own, number))
    return [tuple(begun) for begun in times]


def high(gap, plan):
    return max(plan) // gap + 1


def less_than(newest, begun):
    return tuple([(own, newest - number) for own, number in begun])


def laid(loop, gap, plan, rounds):
    checked(loop)
    checked_gap(gap)
    checked_good_plan(loop, gap, plan)
    return laid_out(gap, plan, checked_rounds(rounds))


def height(loop, gap, plan):
    checked(loop)
    checked_gap(gap)
    return high(gap, checked_good_plan(loop, gap, plan))


def parts(loop, gap, plan):
    rounds = height(loop, gap, plan)
    # Of so many rounds as the height the middle is there just once, and the newest round then is the last one, too.
    times = laid_out(gap, plan, rounds)
    newest = rounds - 1
    first = newest * gap
    beyond = rounds * gap
    middle = [less_than(newest, begun) for begun in times[first:beyond]]
    end = [less_than(newest, begun) for begun in times[beyond:]]
    return (times[:first], middle, end)
