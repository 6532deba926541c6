"""In how many boxes, used in turn, each work's answers must be kept."""

from roundlap.errors import NoBoxes
from roundlap.loops import checked, is_row, is_whole, needs
from roundlap.plans import checked_gap, checked_good_plan, waiting

MOST_BOXES = 999


def are_boxes(thing, many_works):
    return is_row(thing, many_works, many_works) and all([is_whole(many, 1, MOST_BOXES) for many in thing])


def checked_boxes(loop, boxes):
    if not are_boxes(boxes, len(loop[2])):
        raise NoBoxes("these are no boxes of the loop")
    return boxes


def boxes_of(loop, gap, plan, need):
    # An answer that comes when the work behind begins is put into its box ahead of it.
    return waiting(loop, gap, plan, need) // gap + 1


def least_boxes(loop, gap, plan):
    checked(loop)
    checked_gap(gap)
    checked_good_plan(loop, gap, plan)
    boxes = [1] * len(loop[2])
    for need in needs(loop):
        boxes[need[0]] = max(boxes[need[0]], boxes_of(loop, gap, plan, need))
    return tuple(boxes)


def too_few(loop, gap, plan, boxes):
    checked(loop)
    checked_gap(gap)
    checked_good_plan(loop, gap, plan)
    checked_boxes(loop, boxes)
    for need in needs(loop):
        if boxes[need[0]] < boxes_of(loop, gap, plan, need):
            return need
    return None
