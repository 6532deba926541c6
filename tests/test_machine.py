import random
import unittest

from roundlap.boxes import least_boxes, too_few
from roundlap.errors import NoInputs
from roundlap.machine import run
from roundlap.plans import plainly, wrong
from roundlap.seeking import a_plan, shortest
from roundlap.values import answers
from tests.oracles import dressed_loops, inputs_at_random, moved_plans, plain_run
from tests.samples import LOOP, loop_of, work

INPUTS = [(1,), (2,), (3,), (4,), (5,)]


def passing(back=0, long=1, starts=(10, 20, 30)):
    """Work 0 hands on the input, work 1 what work 0 has handed on so many rounds ago."""
    works = [work((("input", 0),), starts, long=long), work((("work", 0, back),))]
    return loop_of(works, (1,), 1, ((3, 1),))


def told(loop, gap, plan, boxes, inputs=INPUTS):
    return [row[0] for row in run(loop, gap, plan, boxes, inputs)]


class EnoughTest(unittest.TestCase):
    def test_no_rounds(self):
        self.assertEqual(run(LOOP, 5, (0, 3, 7), (1, 1, 3), []), [])
        self.assertEqual(run(loop_of([work()]), 1, (999,), (999,), []), [])

    def test_one_round(self):
        # 6; 6 * 4 * 7; 9 less that.
        self.assertEqual(run(LOOP, 5, (0, 3, 7), (1, 1, 3), [(1, 7)]), [(6, 9814)])

    def test_a_sum_over_the_rounds(self):
        loop = loop_of([work((("work", 0, 1), ("input", 0)), (100, 0, 0))], streams=1)
        for gap, plan, boxes in [(1, (0,), (1,)), (1, (0,), (2,)), (7, (3,), (1,)), (200, (999,), (999,))]:
            self.assertEqual(told(loop, gap, plan, boxes), [101, 103, 106, 110, 115])

    def test_each_back(self):
        for back, expected in [(0, [1, 2, 3, 4, 5]), (1, [10, 1, 2, 3, 4]), (2, [20, 10, 1, 2, 3]), (3, [30, 20, 10, 1, 2])]:
            for gap, plan in [(1, (0, 1)), (1, (0, 6)), (2, (4, 5)), (3, (0, 30)), (200, (0, 1)), (200, (799, 999))]:
                least = least_boxes(passing(back), gap, plan)
                for more in (0, 1, 2, 900):
                    boxes = tuple([many + more for many in least])
                    with self.subTest(back=back, gap=gap, plan=plan, boxes=boxes):
                        self.assertEqual(told(passing(back), gap, plan, boxes), expected)

    def test_a_gap_smaller_than_a_long(self):
        # Seven answers are on their way when the first one is there.
        self.assertEqual(told(passing(0, 8), 1, (0, 8), (1, 1)), [1, 2, 3, 4, 5])
        loop = loop_of([work((("work", 0, 3), ("value", 1)), (10, 20, 30), long=8)])
        self.assertEqual(told(loop, 3, (0,), (1,), [()] * 7), [31, 21, 11, 32, 22, 12, 33])
        self.assertEqual(told(loop, 3, (5,), (1,), [()] * 7), [31, 21, 11, 32, 22, 12, 33])

    def test_no_streams(self):
        loop = loop_of([work((("work", 1, 1), ("value", 2)), (1, 1, 1)), work((("work", 0, 0),), (5, 0, 0))])
        for gap, plan in [(2, (0, 1)), (200, (0, 1)), (5, (3, 7))]:
            self.assertEqual(run(loop, gap, plan, (1, 1), [(), (), ()]), [(7, 7), (9, 9), (11, 11)])

    def test_every_word(self):
        for doing, expected in [("plus", 18), ("less", 9967), ("times", 120), ("least", 2), ("greatest", 10)]:
            loop = loop_of([
                work((("input", 0),)), work((("value", 6), ("input", 1), ("work", 0, 0)), doing=doing),
            ], (1,), 2, ((3, 1),))
            self.assertEqual(told(loop, 1, (0, 1), (1, 1), [(10, 2)]), [expected])

    def test_outs_of_works_that_nothing_needs_and_of_all(self):
        loop = loop_of([work((("input", 0),)), work((("input", 0), ("value", 1))), work((("input", 0), ("value", 2)))],
                       streams=1, crews=((3, 1),))
        plan = (5, 0, 9)
        self.assertEqual(run(loop, 2, plan, (1, 1, 1), INPUTS[:2]), [(1, 2, 3), (2, 3, 4)])
        for outs, expected in [((0,), [(1,), (2,)]), ((1, 2), [(2, 3), (3, 4)]), ((0, 2), [(1, 3), (2, 4)])]:
            self.assertEqual(run(loop[:3] + (outs,), 2, plan, (1, 1, 1), INPUTS[:2]), expected)

    def test_as_the_answers_are(self):
        chance = random.Random(71)
        for loop in dressed_loops(72, 150, 1, 8):
            for gap in (shortest(loop)[0], shortest(loop)[0] + 1, plainly(loop)[0]):
                for plan in moved_plans(chance, loop, gap, a_plan(loop, gap), 2):
                    inputs = inputs_at_random(chance, loop[0], chance.choice((0, 1, 12, 40)))
                    expected = answers(loop, inputs)
                    least = least_boxes(loop, gap, plan)
                    self.assertEqual(run(loop, gap, plan, least, inputs), expected, (loop, gap, plan))
                    more = tuple([many + chance.randrange(4) for many in least])
                    self.assertEqual(run(loop, gap, plan, more, inputs), expected, (loop, gap, plan, more))

    def test_as_the_answers_are_by_the_plain_plan(self):
        chance = random.Random(73)
        for loop in dressed_loops(74, 150, 1, 8):
            gap, plan = plainly(loop)
            for rounds in (0, 1, 12, 40):
                inputs = inputs_at_random(chance, loop[0], rounds)
                self.assertEqual(run(loop, gap, plan, least_boxes(loop, gap, plan), inputs), answers(loop, inputs))


class TooFewTest(unittest.TestCase):
    def test_later_answers_have_taken_the_box(self):
        # Work 1 begins when the answers of two later rounds are there, too, as long as there are such rounds.
        self.assertEqual(least_boxes(passing(), 1, (0, 3)), (3, 1))
        self.assertEqual(told(passing(), 1, (0, 3), (1, 1)), [3, 4, 5, 5, 5])
        self.assertEqual(told(passing(), 1, (0, 3), (2, 1)), [3, 4, 5, 4, 5])
        self.assertEqual(told(passing(), 1, (0, 3), (3, 1)), [1, 2, 3, 4, 5])

    def test_what_is_there_is_put_in_ahead_of_what_begins(self):
        # The next round's answer is there just when work 1 begins, or one later.
        self.assertEqual(told(passing(), 2, (0, 3), (1, 1)), [2, 3, 4, 5, 5])
        self.assertEqual(told(passing(), 2, (0, 3), (2, 1)), [1, 2, 3, 4, 5])
        self.assertEqual(told(passing(), 2, (0, 2), (1, 1)), [1, 2, 3, 4, 5])

    def test_starts_that_are_all_there_by_time_0(self):
        # At the times -14, -9 and -4: in the order of their rounds, so the last one is in the one box.
        for back in (1, 2, 3):
            self.assertEqual(told(passing(back), 5, (0, 0), (1, 1)), [10, 1, 2, 3, 4])
        # By two boxes the rounds -3 and -1 have one.
        self.assertEqual(told(passing(1), 5, (0, 0), (2, 1)), [10, 1, 2, 3, 4])
        self.assertEqual(told(passing(2), 5, (0, 0), (2, 1)), [20, 10, 1, 2, 3])
        self.assertEqual(told(passing(3), 5, (0, 0), (2, 1)), [10, 1, 2, 3, 4])
        self.assertEqual(told(passing(3), 5, (0, 0), (3, 1)), [30, 20, 10, 1, 2])

    def test_a_start_that_is_there_just_at_time_0(self):
        for back in (1, 2, 3):
            self.assertEqual(told(passing(back), 5, (4, 0), (1, 1)), [10, 1, 2, 3, 4])

    def test_starts_that_come_later(self):
        # The round -1 is there at time 1, behind what begins at time 0.
        self.assertEqual(told(passing(2), 5, (5, 0), (1, 1)), [20, 10, 1, 2, 3])
        self.assertEqual(told(passing(3), 5, (5, 0), (1, 1)), [20, 10, 1, 2, 3])
        # Just when work 1 begins, or one later.
        self.assertEqual(told(passing(3), 5, (7, 2), (1, 1)), [20, 10, 1, 2, 3])
        self.assertEqual(told(passing(3), 5, (7, 3), (1, 1)), [10, 1, 2, 3, 4])
        # None is there by time 0: at the times 5, 7 and 9.
        self.assertEqual(told(passing(3), 2, (10, 5), (1, 1)), [30, 20, 10, 1, 2])
        self.assertEqual(told(passing(3), 2, (10, 6), (1, 1)), [30, 20, 10, 1, 2])
        self.assertEqual(told(passing(3), 2, (10, 7), (1, 1)), [20, 10, 1, 2, 3])
        self.assertEqual(told(passing(3), 2, (10, 8), (1, 1)), [20, 10, 1, 2, 3])
        self.assertEqual(told(passing(3), 2, (10, 9), (1, 1)), [10, 1, 2, 3, 4])
        self.assertEqual(told(passing(3), 2, (10, 11), (1, 1)), [1, 2, 3, 4, 5])
        self.assertEqual(told(passing(3), 2, (10, 13), (1, 1)), [2, 3, 4, 5, 5])

    def test_a_work_that_takes_its_own_answer(self):
        loop = loop_of([work((("work", 0, 3), ("value", 1)), (10, 20, 30), long=5)])
        rounds = [()] * 6
        self.assertEqual(least_boxes(loop, 5, (0,)), (3,))
        self.assertEqual(told(loop, 5, (0,), (1,), rounds), [11, 12, 13, 14, 15, 16])
        # Round n means n - 3, whose box of two the round n - 1 has by then.
        self.assertEqual(told(loop, 5, (0,), (2,), rounds), [11, 12, 13, 14, 15, 16])
        self.assertEqual(told(loop, 5, (0,), (3,), rounds), [31, 21, 11, 32, 22, 12])

    def test_a_wrong_value_is_handed_on(self):
        loop = loop_of([
            work((("input", 0),)), work((("work", 0, 0), ("value", 100))), work((("work", 1, 0), ("work", 0, 0))),
        ], streams=1, crews=((3, 1),))
        plan = (0, 3, 4)
        self.assertEqual(least_boxes(loop, 2, plan), (2, 1, 1))
        self.assertEqual(run(loop, 2, plan, (2, 1, 1), INPUTS[:3]), [(1, 101, 102), (2, 102, 104), (3, 103, 106)])
        self.assertEqual(run(loop, 2, plan, (1, 1, 1), INPUTS[:3]), [(1, 102, 104), (2, 103, 106), (3, 103, 106)])

    def test_inputs_are_those_of_the_works_round(self):
        loop = loop_of([work((("input", 0),)), work((("input", 0),))], streams=1, crews=((3, 1),))
        self.assertEqual(run(loop, 1, (0, 17), (1, 1), INPUTS), [(k, k) for k in range(1, 6)])

    def test_compared_with_looking_backwards(self):
        chance = random.Random(75)
        seen = {True: 0, False: 0}
        for loop in dressed_loops(76, 300, 1, 8):
            for gap in (shortest(loop)[0], shortest(loop)[0] + 1):
                for plan in moved_plans(chance, loop, gap, a_plan(loop, gap), 3):
                    boxes = tuple([chance.randint(1, 3) for work in loop[2]])
                    inputs = inputs_at_random(chance, loop[0], chance.choice((1, 2, 5, 12)))
                    expected = plain_run(loop, gap, plan, boxes, inputs)
                    self.assertEqual(run(loop, gap, plan, boxes, inputs), expected, (loop, gap, plan, boxes))
                    same = expected == answers(loop, inputs)
                    seen[same] += 1
                    self.assertTrue(same or too_few(loop, gap, plan, boxes) is not None)
        self.assertGreater(min(seen.values()), 100)

    def test_one_box_less_than_the_least(self):
        # Each round has another input, so that a box too few shows.
        for gap, plan in [(1, (0, 5)), (2, (0, 9)), (3, (1, 12))]:
            many = least_boxes(passing(), gap, plan)[0]
            self.assertNotEqual(told(passing(), gap, plan, (many - 1, 1)), [1, 2, 3, 4, 5])
            self.assertEqual(told(passing(), gap, plan, (many, 1)), [1, 2, 3, 4, 5])


class KindsTest(unittest.TestCase):
    def test_kinds(self):
        rows = run(LOOP, 5, (0, 3, 7), (1, 1, 3), [(1, 7), (2, 3)])
        self.assertIs(type(rows), list)
        for row in rows:
            self.assertIs(type(row), tuple)
            self.assertEqual([type(value) for value in row], [int, int])

    def test_nothing_is_kept(self):
        inputs = [(1, 7), (2, 3)]
        first = run(LOOP, 5, (0, 3, 7), (1, 1, 3), inputs)
        kept = list(first)
        first.append("more")
        self.assertEqual(run(LOOP, 5, (0, 3, 7), (1, 1, 3), inputs), kept)
        self.assertEqual(inputs, [(1, 7), (2, 3)])
        inputs.append((5, 5))
        self.assertEqual(run(LOOP, 5, (0, 3, 7), (1, 1, 3), inputs)[:2], kept)

    def test_inputs_of_another_number_of_streams(self):
        self.assertIsNone(wrong(LOOP, 5, (0, 3, 7)))
        for inputs in [[(1,)], [(1, 2, 3)], [(1, 2), (1,)], [()], [(1, 2)] * 41, ((1, 2),), [[1, 2]]]:
            with self.assertRaises(NoInputs):
                run(LOOP, 5, (0, 3, 7), (1, 1, 3), inputs)


if __name__ == "__main__":
    unittest.main()
