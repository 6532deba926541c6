import random
import unittest

from roundlap.plans import plainly, wrong
from tests.oracles import busy_at, keeps_needs, loop_at_random, loops_at_random, plain_wrong
from tests.samples import LOOP, loop_of, rebuilt, work


def needing(back, long=3, crews=((3, 1),)):
    """Work 1 needs work 0 of so many rounds earlier."""
    return loop_of([work(long=long), work((("work", 0, back),))], crews=crews)


def idle(many, crews, crew=0):
    """So many works of a crew, none of which needs another."""
    return loop_of([work(crew=crew)] * many, crews=crews)


class NeedsTest(unittest.TestCase):
    def test_a_good_plan(self):
        self.assertIsNone(wrong(LOOP, 4, (0, 3, 6)))
        self.assertIsNone(wrong(needing(0), 4, (0, 3)))

    def test_just_kept_and_just_not(self):
        for back in (0, 1, 2, 3):
            for gap in (1, 2, 7, 200):
                for long in (1, 3, 8):
                    loop = needing(back, long)
                    first = 700
                    least = first + long - back * gap
                    with self.subTest(back=back, gap=gap, long=long):
                        self.assertIsNone(wrong(loop, gap, (first, least)))
                        self.assertIsNone(wrong(loop, gap, (first, least + 1)))
                        self.assertEqual(wrong(loop, gap, (first, least - 1)), ("need", (0, 1, back)))

    def test_a_work_that_needs_itself(self):
        for back in (1, 2, 3):
            loop = loop_of([work((("work", 0, back),), long=8)])
            for gap in range(1, 12):
                with self.subTest(back=back, gap=gap):
                    fault = None if back * gap >= 8 else ("need", (0, 0, back))
                    for begin in (0, 5, 999):
                        self.assertEqual(wrong(loop, gap, (begin,)), fault)

    def test_a_need_of_a_later_work(self):
        loop = loop_of([work((("work", 1, 1),)), work(long=5)], crews=((2, 1),))
        self.assertIsNone(wrong(loop, 4, (1, 0)))
        self.assertEqual(wrong(loop, 4, (0, 0)), ("need", (1, 0, 1)))

    def test_the_first_need_of_several(self):
        sources = (("work", 1, 1), ("work", 0, 2), ("work", 0, 1))
        loop = loop_of([work(long=8), work(long=8), work(sources)], crews=((3, 1),))
        self.assertEqual(wrong(loop, 1, (9, 9, 0)), ("need", (0, 2, 1)))
        self.assertEqual(wrong(loop, 1, (2, 9, 9)), ("need", (1, 2, 1)))
        self.assertEqual(wrong(loop, 4, (0, 4, 4)), ("need", (1, 2, 1)))
        self.assertEqual(wrong(loop, 4, (0, 0, 0)), ("need", (0, 2, 1)))
        self.assertIsNone(wrong(loop, 4, (0, 0, 4)))

    def test_the_first_need_by_its_work_behind(self):
        loop = loop_of([work(long=4), work((("work", 0, 0),)), work((("work", 0, 0),))], crews=((3, 1),))
        self.assertEqual(wrong(loop, 9, (5, 0, 0)), ("need", (0, 1, 0)))
        self.assertEqual(wrong(loop, 9, (5, 9, 0)), ("need", (0, 2, 0)))

    def test_needs_come_ahead_of_crews(self):
        loop = loop_of([work(long=2), work((("work", 0, 0),), long=2), work((("work", 1, 0),))])
        self.assertEqual(wrong(loop, 5, (0, 0, 0)), ("need", (0, 1, 0)))
        self.assertEqual(wrong(loop, 5, (0, 5, 5)), ("need", (1, 2, 0)))
        self.assertEqual(wrong(loop, 5, (0, 5, 8)), ("crew", 0, 0))
        self.assertIsNone(wrong(loop, 5, (0, 6, 8)))


class CrewsTest(unittest.TestCase):
    def test_one_machine(self):
        loop = idle(2, ((1, 2),))
        expected = [("crew", 0, 0), ("crew", 0, 1), None, None, ("crew", 0, 0)]
        for begin in range(20):
            with self.subTest(begin=begin):
                self.assertEqual(wrong(loop, 5, (0, begin)), expected[begin % 5])

    def test_so_many_machines_are_enough_and_one_less_not(self):
        for many in (1, 2, 3):
            for begin in (0, 3, 999):
                with self.subTest(many=many, begin=begin):
                    self.assertIsNone(wrong(idle(many, ((many, 1),)), 4, (begin,) * many))
                    fault = ("crew", 0, begin % 4)
                    self.assertEqual(wrong(idle(many + 1, ((many, 1),)), 4, (begin,) * (many + 1)), fault)

    def test_rounds_meet(self):
        self.assertEqual(wrong(idle(2, ((1, 3),)), 6, (5, 13)), ("crew", 0, 1))
        self.assertIsNone(wrong(idle(2, ((1, 3),)), 6, (5, 14)))
        self.assertEqual(wrong(idle(2, ((1, 3),)), 7, (5, 14)), ("crew", 0, 0))

    def test_rounds_ahead_of_the_first_count(self):
        # Of the rounds from 0 on alone, none would be crowded at time 0.
        self.assertEqual(wrong(idle(2, ((1, 1),)), 10, (0, 990)), ("crew", 0, 0))

    def test_busy_longer_than_the_gap(self):
        for many in (1, 2, 3):
            for busy in (1, 2, 3, 4):
                for gap in (1, 2, 3, 4, 5):
                    for begin in (0, 1, 2, 7, 999):
                        counts = [0] * gap
                        for later in range(busy):
                            counts[(begin + later) % gap] += 1
                        crowded = [rest for rest in range(gap) if counts[rest] > many]
                        fault = ("crew", 0, crowded[0]) if crowded else None
                        with self.subTest(many=many, busy=busy, gap=gap, begin=begin):
                            self.assertEqual(wrong(idle(1, ((many, busy),)), gap, (begin,)), fault)

    def test_busy_longer_than_the_gap_by_hand(self):
        self.assertEqual(wrong(idle(1, ((1, 4),)), 3, (2,)), ("crew", 0, 2))
        self.assertIsNone(wrong(idle(1, ((2, 4),)), 3, (2,)))
        self.assertEqual(wrong(idle(1, ((3, 4),)), 1, (5,)), ("crew", 0, 0))
        self.assertIsNone(wrong(idle(1, ((3, 3),)), 1, (5,)))
        self.assertIsNone(wrong(idle(2, ((3, 4),)), 3, (0, 1)))
        self.assertEqual(wrong(idle(2, ((3, 4),)), 3, (1, 1)), ("crew", 0, 1))

    def test_the_first_crew_of_several(self):
        crews = ((1, 1), (1, 1), (1, 1))
        loop = loop_of([work(crew=2), work(crew=2), work(crew=1), work(crew=1), work(crew=0), work(crew=0)], crews=crews)
        self.assertEqual(wrong(loop, 9, (0, 0, 5, 5, 1, 2)), ("crew", 1, 5))
        self.assertEqual(wrong(loop, 9, (0, 0, 5, 6, 1, 2)), ("crew", 2, 0))
        self.assertEqual(wrong(loop, 9, (0, 0, 5, 5, 8, 8)), ("crew", 0, 8))
        self.assertIsNone(wrong(loop, 9, (0, 1, 0, 1, 0, 1)))

    def test_the_first_rest_of_several(self):
        loop = idle(4, ((1, 2),))
        self.assertEqual(wrong(loop, 20, (12, 13, 3, 4)), ("crew", 0, 4))
        self.assertEqual(wrong(loop, 20, (19, 19, 3, 3)), ("crew", 0, 0))
        self.assertEqual(wrong(loop, 20, (18, 18, 43, 3)), ("crew", 0, 3))

    def test_a_crew_without_works(self):
        self.assertIsNone(wrong(idle(1, ((1, 4), (1, 1)), 1), 1, (0,)))

    def test_each_crew_has_its_own_machines(self):
        loop = loop_of([work(crew=0), work(crew=1)], crews=((1, 4), (1, 4)))
        self.assertIsNone(wrong(loop, 4, (7, 7)))


class BoundsTest(unittest.TestCase):
    def test_gaps_1_and_200(self):
        loop = needing(3, 8)
        self.assertEqual(wrong(loop, 1, (0, 4)), ("need", (0, 1, 3)))
        self.assertIsNone(wrong(loop, 1, (0, 5)))
        self.assertEqual(wrong(loop, 200, (593, 0)), ("need", (0, 1, 3)))
        self.assertIsNone(wrong(loop, 200, (592, 0)))
        self.assertEqual(wrong(idle(2, ((1, 1),)), 200, (199, 999)), ("crew", 0, 199))
        self.assertIsNone(wrong(idle(2, ((1, 1),)), 200, (198, 999)))

    def test_times_0_and_999(self):
        loop = needing(0)
        self.assertIsNone(wrong(loop, 5, (0, 999)))
        self.assertEqual(wrong(loop, 5, (999, 0)), ("need", (0, 1, 0)))
        self.assertEqual(wrong(loop, 5, (999, 999)), ("need", (0, 1, 0)))
        self.assertIsNone(wrong(loop, 5, (996, 999)))
        self.assertEqual(wrong(loop, 5, (997, 999)), ("need", (0, 1, 0)))

    def test_kinds(self):
        loop = needing(0)
        self.assertIs(type(wrong(loop, 5, (9, 0))), tuple)
        self.assertIs(type(wrong(loop, 5, (9, 0))[1]), tuple)
        self.assertIs(type(wrong(idle(2, ((1, 1),)), 5, (0, 0))), tuple)


class ComparedTest(unittest.TestCase):
    def test_with_the_beginnings_themselves(self):
        chance = random.Random(11)
        seen = {"need": 0, "crew": 0, None: 0}
        for loop in loops_at_random(12, 2500, 1, 4, 4):
            gap = chance.randint(1, 14)
            if chance.random() < 0.7:
                top = chance.choice((6, 40))
                plan = tuple([chance.randint(0, top) for w in loop[2]])
            else:
                gap = plainly(loop)[0]
                plan = tuple([max(0, begin + chance.choice((0, 0, 0, -1, gap))) for begin in plainly(loop)[1]])
            told = wrong(loop, gap, plan)
            self.assertEqual(told, plain_wrong(loop, gap, plan), (loop, gap, plan))
            seen[told and told[0]] += 1
        self.assertGreater(min(seen.values()), 100)


class PlainlyTest(unittest.TestCase):
    def test_one_work(self):
        for long in range(1, 9):
            for busy in range(1, 5):
                loop = loop_of([work(long=long)], crews=((1, busy),))
                self.assertEqual(plainly(loop), (max(long, busy), (0,)))

    def test_by_hand(self):
        self.assertEqual(plainly(LOOP), (6, (0, 3, 4)))
        crews = ((1, 4), (3, 1), (2, 2))
        works = [work(crew=0, long=2), work(crew=1, long=7), work(crew=2, long=2), work(crew=0, long=5), work(crew=2)]
        self.assertEqual(plainly(loop_of(works, crews=crews)), (20, (0, 4, 11, 13, 18)))

    def test_the_greatest(self):
        loop = loop_of([work(long=8)] * 8, crews=((1, 4),))
        self.assertEqual(plainly(loop), (64, (0, 8, 16, 24, 32, 40, 48, 56)))

    def test_the_plan_is_good_for_the_gap(self):
        for loop in loops_at_random(13, 500, 1, 8):
            gap, plan = plainly(loop)
            self.assertEqual(gap, sum([max(w[1], loop[1][w[0]][1]) for w in loop[2]]))
            self.assertIsNone(wrong(loop, gap, plan))
            self.assertTrue(keeps_needs(loop, gap, plan))
            for crew, (many, busy) in enumerate(loop[1]):
                self.assertLessEqual(max([busy_at(loop, gap, plan, crew, time) for time in range(gap)]), 1)
            self.assertEqual(plan[0], 0)

    def test_kinds(self):
        told = plainly(LOOP)
        self.assertIs(type(told), tuple)
        self.assertIs(type(told[1]), tuple)

    def test_equal_loops(self):
        loop = loop_at_random(random.Random(14), 8)
        self.assertEqual(plainly(loop), plainly(rebuilt(loop)))


if __name__ == "__main__":
    unittest.main()
