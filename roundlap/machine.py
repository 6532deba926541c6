"""A machine that goes by a gap, a plan and boxes, time by time."""

from roundlap.boxes import checked_boxes
from roundlap.laying import laid_out
from roundlap.loops import MOST_BACK, checked
from roundlap.plans import checked_gap, checked_good_plan
from roundlap.values import checked_inputs, outcome


def starts_coming(loop, gap, plan):
    # For each time what is there then: (work, round, value).
    coming = {}
    # In the order of the rounds: of those that are there by time 0 a later one may take an earlier one's box.
    for number in range(-MOST_BACK, 0):
        for own, work in enumerate(loop[2]):
            # No work's answer is there by time 0, so what is put in then is ahead of all.
            time = max(0, number * gap + plan[own] + work[1])
            coming.setdefault(time, []).append((own, number, work[4][-1 - number]))
    return coming


def put_in(kept, there):
    for own, number, value in there:
        boxes = kept[own]
        boxes[number % len(boxes)] = value


def value_taken(source, number, kept, given):
    if source[0] == "value":
        return source[1]
    if source[0] == "input":
        return given[source[1]]
    boxes = kept[source[1]]
    return boxes[(number - source[2]) % len(boxes)]


def run(loop, gap, plan, boxes, inputs):
    works = checked(loop)[2]
    checked_gap(gap)
    checked_good_plan(loop, gap, plan)
    kept = [[0] * many for many in checked_boxes(loop, boxes)]
    found = [[0] * len(works) for given in checked_inputs(loop, inputs)]
    coming = starts_coming(loop, gap, plan)
    for time, begun in enumerate(laid_out(gap, plan, len(inputs))):
        put_in(kept, coming.get(time, []))
        for own, number in begun:
            work = works[own]
            taken = [value_taken(source, number, kept, inputs[number]) for source in work[3]]
            found[number][own] = outcome(work[2], taken)
            coming.setdefault(time + work[1], []).append((own, number, found[number][own]))
    return [tuple([row[own] for own in loop[3]]) for row in found]
