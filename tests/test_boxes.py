import random
import unittest

from roundlap.boxes import least_boxes, too_few
from roundlap.plans import plainly, wrong
from roundlap.seeking import a_plan, shortest
from tests.oracles import loops_at_random, plain_boxes, plain_needs
from tests.samples import loop_of, work


def needing(back, long=3):
    return loop_of([work(long=long), work((("work", 0, back),))], crews=((3, 1),))


def moved(chance, gap, plan, many=4):
    """A plan that may be good still, with works some gaps later."""
    return tuple([begin + gap * chance.randrange(many) for begin in plan])


# Work 0 is needed by 1 with back 0 and 2, by 2 with back 1 and by itself with back 3; nothing needs 2.
SEVERAL = loop_of([
    work((("work", 0, 3),), long=2),
    work((("work", 0, 0), ("work", 0, 2)), long=1),
    work((("work", 0, 1), ("work", 1, 0))),
], crews=((3, 1),))


class LeastTest(unittest.TestCase):
    def test_nothing_needs_it(self):
        for gap in (1, 5, 200):
            self.assertEqual(least_boxes(loop_of([work(long=8)]), gap, (999,)), (1,))
        self.assertEqual(least_boxes(needing(0), 4, (0, 3)), (1, 1))

    def test_waiting_just_a_multiple_of_the_gap_and_one_less(self):
        for gap in (1, 2, 5, 200):
            for back in (0, 1, 2, 3):
                for many in range(0, 4):
                    # The answer waits for many gaps just.
                    first = 600
                    begin = first + 3 + (many - back) * gap
                    with self.subTest(gap=gap, back=back, many=many):
                        if begin <= 999:
                            self.assertEqual(least_boxes(needing(back), gap, (first, begin)), (many + 1, 1))
                        if many > 0 and begin <= 1000:
                            self.assertEqual(least_boxes(needing(back), gap, (first, begin - 1)), (many, 1))

    def test_taken_as_soon_as_it_is_there(self):
        self.assertEqual(least_boxes(needing(0), 1, (0, 3)), (1, 1))
        self.assertEqual(least_boxes(needing(0), 1, (0, 4)), (2, 1))
        self.assertEqual(least_boxes(needing(0), 2, (0, 4)), (1, 1))

    def test_a_work_that_needs_itself(self):
        for back, gap, long, many in [(1, 8, 8, 1), (1, 9, 8, 1), (3, 5, 8, 2), (3, 4, 8, 2), (2, 200, 1, 2), (3, 1, 3, 1)]:
            loop = loop_of([work((("work", 0, back),), long=long)])
            self.assertEqual(least_boxes(loop, gap, (7,)), (many,))

    def test_several_needs_of_one_work(self):
        # By 4: itself waits 10, 1 waits 0 and 8, 2 waits 5; 1 is needed by 2, which waits 0.
        self.assertEqual(least_boxes(SEVERAL, 4, (0, 2, 3)), (3, 1, 1))
        # 2 waits 13 then, and 10 for the answer of 1.
        self.assertEqual(least_boxes(SEVERAL, 4, (0, 2, 13)), (4, 3, 1))

    def test_the_greatest(self):
        # More than may be handed in as boxes.
        self.assertEqual(least_boxes(needing(3, 1), 1, (0, 999)), (1002, 1))

    def test_compared_with_time_by_time(self):
        chance = random.Random(51)
        seen = 0
        for loop in loops_at_random(52, 400, 1, 5, 5):
            for gap, plan in (plainly(loop), (shortest(loop)[0], a_plan(loop, shortest(loop)[0]))):
                other = moved(chance, gap, plan)
                for one in (plan, other):
                    if wrong(loop, gap, one) is None:
                        self.assertEqual(least_boxes(loop, gap, one), plain_boxes(loop, gap, one), (loop, gap, one))
                        seen += one != plan
        self.assertGreater(seen, 50)

    def test_kinds(self):
        told = least_boxes(SEVERAL, 4, (0, 2, 3))
        self.assertIs(type(told), tuple)
        self.assertEqual([type(many) for many in told], [int, int, int])


class TooFewTest(unittest.TestCase):
    def test_just_enough_and_more(self):
        self.assertIsNone(too_few(SEVERAL, 4, (0, 2, 3), (3, 1, 1)))
        self.assertIsNone(too_few(SEVERAL, 4, (0, 2, 3), (4, 2, 2)))
        self.assertIsNone(too_few(SEVERAL, 4, (0, 2, 3), (999, 999, 999)))

    def test_the_first_need_of_several(self):
        plan = (0, 2, 13)
        self.assertIsNone(too_few(SEVERAL, 4, plan, (4, 3, 1)))
        self.assertEqual(too_few(SEVERAL, 4, plan, (3, 3, 1)), (0, 2, 1))
        self.assertEqual(too_few(SEVERAL, 4, plan, (2, 3, 1)), (0, 0, 3))
        self.assertEqual(too_few(SEVERAL, 4, plan, (1, 1, 1)), (0, 0, 3))
        self.assertEqual(too_few(SEVERAL, 4, plan, (4, 2, 1)), (1, 2, 0))
        self.assertEqual(too_few(SEVERAL, 4, plan, (3, 2, 1)), (0, 2, 1))

    def test_the_first_by_back(self):
        plan = (0, 10, 13)
        self.assertEqual(too_few(SEVERAL, 4, plan, (3, 1, 1)), (0, 1, 2))
        self.assertEqual(too_few(SEVERAL, 4, plan, (4, 1, 1)), (0, 1, 2))
        self.assertIsNone(too_few(SEVERAL, 4, plan, (5, 1, 1)))

    def test_works_that_nothing_needs(self):
        self.assertIsNone(too_few(loop_of([work()] * 3), 9, (0, 1, 2), (1, 1, 1)))

    def test_waiting_just_a_multiple_of_the_gap_and_one_less(self):
        self.assertEqual(too_few(needing(0), 5, (0, 8), (1, 1)), (0, 1, 0))
        self.assertIsNone(too_few(needing(0), 5, (0, 8), (2, 1)))
        self.assertIsNone(too_few(needing(0), 5, (0, 7), (1, 1)))

    def test_never_enough(self):
        self.assertEqual(too_few(needing(3, 1), 1, (0, 999), (999, 999)), (0, 1, 3))

    def test_compared_with_the_least(self):
        chance = random.Random(53)
        seen = {True: 0, False: 0}
        for loop in loops_at_random(54, 600, 1, 6):
            gap, plan = plainly(loop)
            other = moved(chance, gap, plan, 3)
            plan = other if wrong(loop, gap, other) is None else plan
            least = least_boxes(loop, gap, plan)
            self.assertIsNone(too_few(loop, gap, plan, least))
            for own in range(len(least)):
                if least[own] > 1:
                    fewer = least[:own] + (least[own] - 1,) + least[own + 1:]
                    self.assertEqual(too_few(loop, gap, plan, fewer)[0], own)
            boxes = tuple([chance.randint(1, 4) for many in least])
            told = too_few(loop, gap, plan, boxes)
            enough = all([one >= other for one, other in zip(boxes, least)])
            self.assertEqual(told is None, enough)
            seen[enough] += 1
            if told is not None:
                self.assertIn(told, plain_needs(loop))
        self.assertGreater(min(seen.values()), 50)

    def test_kinds(self):
        self.assertIs(type(too_few(needing(0), 5, (0, 8), (1, 1))), tuple)


if __name__ == "__main__":
    unittest.main()
