"""The whole program: its interface, and its parts used one behind the other."""

import importlib
import inspect
import random
import unittest

from roundlap.boxes import least_boxes, too_few
from roundlap.laying import height, laid, parts
from roundlap.machine import run
from roundlap.plans import wrong
from roundlap.seeking import a_plan, shortest
from roundlap.texts import read, shown
from roundlap.unrolling import rows_together, unrolled
from roundlap.values import answers
from tests.oracles import dressed_loops, inputs_at_random

INTERFACE = {
    "loops": {"checked": "loop", "needs": "loop"},
    "values": {"answers": "loop inputs"},
    "plans": {"wrong": "loop gap plan", "plainly": "loop"},
    "bars": {
        "ring": "loop gap", "crowd": "loop gap", "is_bar": "loop gap thing", "ring_gap": "loop", "crew_gap": "loop",
    },
    "seeking": {"a_plan": "loop gap", "shortest": "loop"},
    "boxes": {"least_boxes": "loop gap plan", "too_few": "loop gap plan boxes"},
    "laying": {"laid": "loop gap plan rounds", "height": "loop gap plan", "parts": "loop gap plan"},
    "machine": {"run": "loop gap plan boxes inputs"},
    "unrolling": {"unrolled": "loop times", "rows_together": "rows times"},
    "texts": {"shown": "loop", "read": "text"},
}


class InterfaceTest(unittest.TestCase):
    def test_names_and_arguments(self):
        for module, functions in INTERFACE.items():
            held = importlib.import_module("roundlap." + module)
            for name, arguments in functions.items():
                with self.subTest(module, name=name):
                    self.assertEqual(list(inspect.signature(getattr(held, name)).parameters), arguments.split())


class WholeTest(unittest.TestCase):
    def check(self, chance, loop):
        gap = shortest(loop)[0]
        plan = a_plan(loop, gap)
        self.assertIsNone(wrong(loop, gap, plan))
        boxes = least_boxes(loop, gap, plan)
        self.assertIsNone(too_few(loop, gap, plan, boxes))
        rounds = chance.choice((0, 1, 12, 40))
        inputs = inputs_at_random(chance, loop[0], rounds)
        told = run(loop, gap, plan, boxes, inputs)
        self.assertEqual(told, answers(loop, inputs))
        self.assertEqual(sum([len(begun) for begun in laid(loop, gap, plan, rounds)]), rounds * len(loop[2]))
        self.assertEqual(len(parts(loop, gap, plan)[0]), gap * (height(loop, gap, plan) - 1))
        return inputs, told

    def test_one_behind_the_other(self):
        chance = random.Random(101)
        for loop in dressed_loops(102, 120, 1, 8):
            self.assertEqual(read(shown(loop)), loop)
            self.check(chance, loop)

    def test_unrolled_ones(self):
        chance = random.Random(103)
        for times, most_works in [(2, 4), (3, 2)]:
            for loop in dressed_loops(104, 60, 1, most_works, streams=2):
                other = unrolled(loop, times)
                self.assertEqual(read(shown(other)), other)
                inputs, told = self.check(chance, other)
                # Each round of the unrolled loop is so many of the loop.
                plainly = [row[2 * part:2 * part + 2] for row in inputs for part in range(times)][:40]
                many = len(plainly) // times
                self.assertEqual(rows_together(answers(loop, plainly), times), told[:many])


if __name__ == "__main__":
    unittest.main()
