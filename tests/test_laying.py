import random
import unittest

from roundlap.errors import NoPlan, NoRounds
from roundlap.laying import height, laid, parts
from roundlap.plans import plainly, wrong
from roundlap.seeking import a_plan, shortest
from tests.oracles import loops_at_random, moved_plans, plain_laid
from tests.samples import STRANGE, loop_of, work


def free(many):
    """A loop of so many works that nothing holds up, one begun each time at the most by each of three crews."""
    return loop_of([work(crew=own % 3) for own in range(many)], crews=((3, 1), (3, 1), (3, 1)))


ONE = free(1)
TWO = free(2)


class LaidTest(unittest.TestCase):
    def test_no_rounds(self):
        for gap, plan in [(1, (0,)), (5, (3,)), (200, (999,))]:
            self.assertEqual(laid(ONE, gap, plan, 0), [])

    def test_one_round(self):
        self.assertEqual(laid(ONE, 1, (0,), 1), [((0, 0),)])
        self.assertEqual(laid(ONE, 3, (0,), 1), [((0, 0),), (), ()])
        self.assertEqual(laid(TWO, 3, (1, 4), 1), [(), ((0, 0),), (), (), ((1, 0),)])

    def test_several_rounds(self):
        self.assertEqual(laid(TWO, 2, (0, 3), 3), [
            ((0, 0),), (), ((0, 1),), ((1, 0),), ((0, 2),), ((1, 1),), (), ((1, 2),),
        ])

    def test_the_length(self):
        for greatest, one in [
            (0, 5), (3, 5), (4, 5), (5, 6), (6, 7), (8, 9), (9, 10), (10, 11), (11, 12), (14, 15), (15, 16), (999, 1000),
        ]:
            for plan in [(greatest, 0), (0, greatest), (greatest, greatest)]:
                for rounds in (1, 2, 3, 39, 40):
                    with self.subTest(plan=plan, rounds=rounds):
                        self.assertEqual(len(laid(TWO, 5, plan, rounds)), 5 * (rounds - 1) + one)

    def test_several_works_at_one_time_of_several_rounds_rising(self):
        told = laid(free(4), 2, (4, 0, 2, 4), 4)
        self.assertEqual(told, [
            ((1, 0),), (), ((1, 1), (2, 0)), (), ((0, 0), (1, 2), (2, 1), (3, 0)), (),
            ((0, 1), (1, 3), (2, 2), (3, 1)), (), ((0, 2), (2, 3), (3, 2)), (), ((0, 3), (3, 3)),
        ])

    def test_times_at_which_nothing_begins(self):
        told = laid(ONE, 7, (9,), 3)
        self.assertEqual([time for time, begun in enumerate(told) if begun], [9, 16, 23])
        self.assertEqual(told.count(()), 24 - 3)

    def test_each_work_of_each_round_once(self):
        for rounds in (1, 2, 13, 40):
            told = laid(free(5), 3, (7, 0, 12, 5, 7), rounds)
            flat = [pair for begun in told for pair in begun]
            self.assertEqual(sorted(flat), [(own, number) for own in range(5) for number in range(rounds)])

    def test_forty_rounds(self):
        self.assertEqual(laid(ONE, 1, (0,), 40), [((0, number),) for number in range(40)])
        self.assertEqual(laid(ONE, 200, (999,), 40)[-1], ((0, 39),))

    def test_compared_with_asking_at_each_time(self):
        chance = random.Random(61)
        for loop in loops_at_random(62, 150, 1, 8):
            for gap in (shortest(loop)[0], shortest(loop)[0] + 1, plainly(loop)[0]):
                for plan in moved_plans(chance, loop, gap, a_plan(loop, gap), 3):
                    rounds = chance.choice((0, 1, 2, 3, 7))
                    self.assertEqual(laid(loop, gap, plan, rounds), plain_laid(gap, plan, rounds))

    def test_kinds(self):
        told = laid(TWO, 2, (0, 3), 3)
        self.assertIs(type(told), list)
        for begun in told:
            self.assertIs(type(begun), tuple)
            for pair in begun:
                self.assertIs(type(pair), tuple)
                self.assertEqual([type(part) for part in pair], [int, int])

    def test_no_number_of_rounds(self):
        for rounds in [-1, 41, -40, 42, 10 ** 30, -(10 ** 30), True, False, None, "1", "", [1], [], (1,), 1.0, 0.0] + STRANGE:
            with self.assertRaises(NoRounds):
                laid(TWO, 2, (0, 3), rounds)

    def test_a_plan_that_is_not_good(self):
        loop = loop_of([work(long=3), work((("work", 0, 0),))])
        self.assertIsNone(wrong(loop, 2, (0, 3)))
        for plan in [(0, 2), (0, 4), (0, 0)]:
            for rounds in (0, 1, 41, None):
                # Also where nothing is laid out by it, or nothing could be.
                with self.assertRaises(NoPlan):
                    laid(loop, 2, plan, rounds)
            with self.assertRaises(NoPlan):
                height(loop, 2, plan)
            with self.assertRaises(NoPlan):
                parts(loop, 2, plan)


class HeightTest(unittest.TestCase):
    def test_around_multiples_of_the_gap(self):
        for gap, greatest, high in [
            (5, 0, 1), (5, 4, 1), (5, 5, 2), (5, 6, 2), (5, 9, 2), (5, 10, 3), (5, 14, 3), (5, 15, 4),
            (1, 0, 1), (1, 1, 2), (1, 999, 1000), (200, 199, 1), (200, 200, 2), (200, 999, 5), (2, 999, 500),
        ]:
            for plan in [(greatest, 0), (0, greatest), (greatest, greatest)]:
                self.assertEqual(height(TWO, gap, plan), high)

    def test_kind(self):
        self.assertIs(type(height(TWO, 5, (0, 9))), int)


def put_together(told, high, rounds):
    """The parts, laid out again for so many rounds."""
    beginning, middle, end = told
    found = list(beginning)
    for newest in range(high - 1, rounds):
        found.extend([tuple([(own, newest - stage) for own, stage in begun]) for begun in middle])
    return found + [tuple([(own, rounds - 1 - before) for own, before in begun]) for begun in end]


class PartsTest(unittest.TestCase):
    def test_height_1(self):
        self.assertEqual(parts(TWO, 3, (2, 0)), ([], [((1, 0),), (), ((0, 0),)], []))
        self.assertEqual(parts(ONE, 1, (0,)), ([], [((0, 0),)], []))

    def test_height_2(self):
        # The end is as long as the last round goes beyond its gap.
        self.assertEqual(parts(TWO, 3, (0, 3)), (
            [((0, 0),), (), ()], [((0, 0), (1, 1)), (), ()], [((1, 0),)],
        ))
        self.assertEqual(parts(TWO, 3, (0, 5)), (
            [((0, 0),), (), ()], [((0, 0),), (), ((1, 1),)], [(), (), ((1, 0),)],
        ))

    def test_height_4(self):
        self.assertEqual(parts(free(3), 2, (1, 6, 2), ), (
            [(), ((0, 0),), ((2, 0),), ((0, 1),), ((2, 1),), ((0, 2),)],
            [((1, 3), (2, 1)), ((0, 0),)],
            [((1, 2), (2, 0)), (), ((1, 1),), (), ((1, 0),)],
        ))

    def test_the_least_number_is_more_than_the_gap(self):
        # The newest round then is one of which nothing has begun yet.
        self.assertEqual(parts(TWO, 2, (3, 5)), (
            [(), (), (), ((0, 0),)],
            [(), ((0, 1), (1, 2))],
            [(), ((0, 0), (1, 1)), (), ((1, 0),)],
        ))
        self.assertEqual(parts(ONE, 4, (9,)), ([()] * 8, [(), ((0, 2),), (), ()], [(), ((0, 1),), (), (), (), ((0, 0),)]))

    def test_more_than_40_high(self):
        beginning, middle, end = parts(TWO, 1, (0, 999))
        self.assertEqual(beginning, [((0, number),) for number in range(999)])
        self.assertEqual(middle, [((0, 0), (1, 999))])
        self.assertEqual(end, [((1, 998 - number),) for number in range(999)])

    def test_laid_out_they_are_the_whole(self):
        chance = random.Random(63)
        seen = {}
        for loop in loops_at_random(64, 150, 1, 8):
            for gap in (shortest(loop)[0], shortest(loop)[0] + 1, plainly(loop)[0]):
                for plan in moved_plans(chance, loop, gap, a_plan(loop, gap), 4):
                    high = height(loop, gap, plan)
                    told = parts(loop, gap, plan)
                    for rounds in range(high, min(high + 4, 41)):
                        self.assertEqual(put_together(told, high, rounds), laid(loop, gap, plan, rounds))
                        seen[high, min(plan) >= gap] = True
                    self.assertEqual(len(told[0]), gap * (high - 1))
                    self.assertEqual(len(told[1]), gap)
                    self.assertEqual(sorted([own for begun in told[1] for own, stage in begun]), list(range(len(plan))))
        self.assertTrue(all([(high, False) in seen for high in (1, 2, 3, 4)]))
        self.assertTrue(all([(high, True) in seen for high in (2, 3, 4)]))

    def test_laid_out_of_every_number_of_rounds(self):
        for plan in [(0, 1, 2), (2, 5, 3), (0, 8, 4), (4, 4, 13), (7, 7, 7)]:
            high = height(free(3), 3, plan)
            for rounds in range(high, 41):
                self.assertEqual(put_together(parts(free(3), 3, plan), high, rounds), laid(free(3), 3, plan, rounds))

    def test_kinds(self):
        told = parts(TWO, 3, (0, 7))
        self.assertIs(type(told), tuple)
        self.assertEqual([type(part) for part in told], [list, list, list])
        for part in told:
            for begun in part:
                self.assertIs(type(begun), tuple)
                for pair in begun:
                    self.assertIs(type(pair), tuple)
                    self.assertEqual([type(number) for number in pair], [int, int])

    def test_the_lists_are_new_ones(self):
        for plan in [(0, 1), (0, 7)]:
            first = parts(TWO, 3, plan)
            again = parts(TWO, 3, plan)
            self.assertEqual(first, again)
            for part in first:
                part.append("more")
            self.assertEqual([len(part) for part in first], [len(part) + 1 for part in again])
            self.assertEqual(parts(TWO, 3, plan), again)


if __name__ == "__main__":
    unittest.main()
