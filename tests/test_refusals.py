"""What is refused, in which order, and that nothing else is done with what is handed in."""

import copy
import itertools
import unittest

from roundlap.bars import crew_gap, crowd, is_bar, ring, ring_gap
from roundlap.boxes import least_boxes, too_few
from roundlap.errors import LapError, NoBoxes, NoGap, NoInputs, NoLoop, NoPlan, NoRounds, NoText
from roundlap.laying import height, laid, parts
from roundlap.loops import checked, needs
from roundlap.machine import run
from roundlap.plans import plainly, wrong
from roundlap.seeking import a_plan, shortest
from roundlap.texts import read, shown
from roundlap.unrolling import unrolled
from roundlap.values import answers
from tests.oracles import plain_text
from tests.samples import LOOP, STRANGE, Hostile, loop_of, rebuilt, replaced, work

# Each is good by the others: a loop of three works, its gap, plan and boxes.
GIVEN = {
    "loop": LOOP, "gap": 5, "plan": (0, 3, 7), "good plan": (0, 3, 7), "boxes": (1, 1, 3), "thing": [(0, 1, 0)],
    "rounds": 3, "times": 2, "inputs": [(1, 2), (3, 4), (5, 6)], "text": plain_text(LOOP),
}

# A name that stands nowhere among the errors is of any kind.
ERRORS = {
    "loop": NoLoop, "gap": NoGap, "plan": NoPlan, "good plan": NoPlan, "boxes": NoBoxes, "rounds": NoRounds,
    "times": NoRounds, "inputs": NoInputs, "text": NoText,
}

FUNCTIONS = [
    (checked, ["loop"]),
    (needs, ["loop"]),
    (answers, ["loop", "inputs"]),
    (wrong, ["loop", "gap", "plan"]),
    (plainly, ["loop"]),
    (ring, ["loop", "gap"]),
    (crowd, ["loop", "gap"]),
    (is_bar, ["loop", "gap", "thing"]),
    (ring_gap, ["loop"]),
    (crew_gap, ["loop"]),
    (a_plan, ["loop", "gap"]),
    (shortest, ["loop"]),
    (least_boxes, ["loop", "gap", "good plan"]),
    (too_few, ["loop", "gap", "good plan", "boxes"]),
    (laid, ["loop", "gap", "good plan", "rounds"]),
    (height, ["loop", "gap", "good plan"]),
    (parts, ["loop", "gap", "good plan"]),
    (run, ["loop", "gap", "good plan", "boxes", "inputs"]),
    (unrolled, ["loop", "times"]),
    (shown, ["loop"]),
    (read, ["text"]),
]

ENDLESS = []
ENDLESS.append(ENDLESS)

WRONG_LOOPS = STRANGE + [
    0, True, list(LOOP), LOOP[:3], LOOP + (0,), replaced(LOOP, (0,), True), replaced(LOOP, (0,), 7), replaced(LOOP, (3,), ()),
    replaced(LOOP, (2,), ()), replaced(LOOP, (2, 0, 1), 9), replaced(LOOP, (1, 0, 1), 5), ENDLESS,
]
WRONG_GAPS = STRANGE + [0, 201, -1, -5, True, False, "5", [5], (5,), 5.0, 10 ** 30, -(10 ** 30), LOOP, ENDLESS]


WRONG_NUMBERS = STRANGE + [True, False, "2", [2], (2,), 2.0, 3.0, 10 ** 30, -(10 ** 30), LOOP, ENDLESS]


def wrong_inputs():
    """Things that are no inputs of two streams; an empty list is such of no rounds."""
    found = [thing for thing in STRANGE if not (isinstance(thing, list) and len(thing) == 0)]
    found += [2, True, ((1, 2),), [(1, 2)] * 41, [()], [(1,)], [(1, 2, 3)], [[1, 2]], [(1, 2), None], [(1, 2), (3,)], ENDLESS]
    for thing in STRANGE + [-1, 9973, True, False, "1", 10 ** 30]:
        found += [[(thing, 2)], [(1, 2), (1, thing)], [thing, (1, 2)]]
    return found


def rows_with(least, most):
    """Things that are no rows of a whole number from least to most for each of three works."""
    row = (least, least + 1, least + 2)
    found = STRANGE + [list(row), row[:2], row + (least,), row * 2, (least,), least, True, "012", {1: 2}, ENDLESS, (row,)]
    for part in range(3):
        for thing in STRANGE + [least - 1, most + 1, -(10 ** 30), 10 ** 30, True, False, str(least), float(least), [least]]:
            found.append(replaced(row, (part,), thing))
    return found


WRONG = {
    "loop": WRONG_LOOPS,
    "gap": WRONG_GAPS,
    "plan": rows_with(0, 999),
    # The last ones are plans, but not good: needs are not kept, or a crew is crowded.
    "good plan": rows_with(0, 999) + [(0, 2, 7), (0, 0, 0), (0, 3, 3), (0, 3, 5), (0, 3, 6), (999, 0, 0)],
    "boxes": rows_with(1, 999),
    "rounds": WRONG_NUMBERS + [-1, 41],
    "times": WRONG_NUMBERS + [-1, 0, 1, 4, 5],
    "inputs": wrong_inputs(),
    "text": STRANGE + [0, True, LOOP, ENDLESS, plain_text(LOOP).encode(), [plain_text(LOOP)], plain_text(LOOP)[:-1], "streams 0"],
}


class RefusalsTest(unittest.TestCase):
    def arguments(self, names):
        return [copy.deepcopy(GIVEN[name]) for name in names]

    def test_what_is_given_is_not_refused(self):
        for function, names in FUNCTIONS:
            with self.subTest(function.__name__):
                function(*self.arguments(names))

    def test_each_wrong_thing(self):
        for function, names in FUNCTIONS:
            for place, name in enumerate(names):
                for thing in WRONG.get(name, []):
                    arguments = self.arguments(names)
                    arguments[place] = thing
                    with self.subTest(function.__name__, name=name, kind=type(thing)):
                        with self.assertRaises(ERRORS[name]):
                            function(*arguments)

    def test_the_one_that_is_named_first(self):
        few = {name: things[:3] + things[-3:] + [Hostile()] for name, things in WRONG.items()}
        for function, names in FUNCTIONS:
            asked = [name for name in names if name in ERRORS]
            for first in range(len(asked)):
                for things in itertools.product(*[few[name] for name in asked[first:]]):
                    arguments = self.arguments(names)
                    arguments[first:len(asked)] = things
                    with self.assertRaises(ERRORS[asked[first]], msg=function.__name__):
                        function(*arguments)

    def test_with_things_of_any_kind_behind(self):
        for function, names in FUNCTIONS:
            for first in range(len(names)):
                if names[first] in ERRORS:
                    for thing in STRANGE:
                        arguments = self.arguments(names)[:first] + [None] + [thing] * (len(names) - first - 1)
                        with self.assertRaises(ERRORS[names[first]], msg=function.__name__):
                            function(*arguments)

    def test_a_thing_of_any_kind_is_never_refused(self):
        for thing in STRANGE + [ENDLESS, True, 0, [(0, 1, 0)], [(Hostile(), 0, 0)], LOOP]:
            self.assertIs(is_bar(LOOP, 1, thing), False)

    def test_gaps_at_their_bounds(self):
        loop = loop_of([work()])
        for gap in (1, 2, 199, 200):
            self.assertIsNone(wrong(loop, gap, (0,)))
            self.assertIsNone(ring(loop, gap))
            self.assertIsNone(crowd(loop, gap))
            self.assertFalse(is_bar(loop, gap, []))
            self.assertIsNotNone(a_plan(loop, gap))
            self.assertEqual(least_boxes(loop, gap, (0,)), (1,))
            self.assertIsNone(too_few(loop, gap, (0,), (1,)))

    def test_plans_and_boxes_at_their_bounds(self):
        loop = loop_of([work()])
        for begin in (0, 1, 998, 999):
            self.assertIsNone(wrong(loop, 5, (begin,)))
            self.assertEqual(least_boxes(loop, 5, (begin,)), (1,))
        for many in (1, 2, 998, 999):
            self.assertIsNone(too_few(loop, 5, (0,), (many,)))

    def test_a_plan_need_not_be_good_to_be_asked_what_is_wrong(self):
        for plan in WRONG["good plan"][-6:]:
            self.assertIsNotNone(wrong(LOOP, 5, plan))

    def test_each_is_a_lap_error(self):
        for function, names in FUNCTIONS:
            with self.assertRaises(LapError):
                function(*[None] * len(names))


class HandedInTest(unittest.TestCase):
    def test_it_is_the_same_afterwards(self):
        for function, names in FUNCTIONS:
            with self.subTest(function.__name__):
                arguments = [copy.deepcopy(GIVEN[name]) for name in names]
                function(*arguments)
                self.assertEqual(arguments, [GIVEN[name] for name in names])

    def test_the_same_call_twice(self):
        for function, names in FUNCTIONS:
            with self.subTest(function.__name__):
                arguments = [GIVEN[name] for name in names]
                first = function(*arguments)
                kept = copy.deepcopy(first)
                self.assertEqual(function(*arguments), kept)
                others = [rebuilt(argument) for argument in arguments]
                self.assertEqual(function(*others), kept)
                self.assertEqual(first, kept)

    def test_lists_are_new_ones_each_time(self):
        for function, names in FUNCTIONS:
            arguments = [GIVEN[name] for name in names]
            told = function(*arguments)
            kept = copy.deepcopy(told)
            for thing in told if isinstance(told, tuple) else (told,):
                if isinstance(thing, list):
                    thing.append("more")
            with self.subTest(function.__name__):
                self.assertEqual(function(*arguments), kept)

    def test_what_is_refused_is_the_same_afterwards(self):
        plan, boxes, loop = [0, 3, 7], [1, 1, 3], list(LOOP)
        for call in (lambda: wrong(LOOP, 5, plan), lambda: too_few(LOOP, 5, (0, 3, 7), boxes), lambda: ring(loop, 5)):
            with self.assertRaises(LapError):
                call()
        self.assertEqual((plan, boxes, loop), ([0, 3, 7], [1, 1, 3], list(LOOP)))
        inputs = [(1, 2), [3, 4], (5,)]
        for call in (lambda: run(LOOP, 5, (0, 3, 7), (1, 1, 3), inputs), lambda: answers(LOOP, inputs)):
            with self.assertRaises(NoInputs):
                call()
        self.assertEqual(inputs, [(1, 2), [3, 4], (5,)])


if __name__ == "__main__":
    unittest.main()
