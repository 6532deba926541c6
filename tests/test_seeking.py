import random
import unittest

from roundlap.bars import crew_gap, crowd, is_bar, ring, ring_gap
from roundlap.plans import plainly, wrong
from roundlap.seeking import a_plan, shortest
from tests.oracles import has_plan, loop_at_random, loops_at_random, plain_wrong
from tests.samples import LOOP, loop_of, rebuilt, work


def loop_with(crews, rows):
    """Each row: a work's crew and long, then (ahead, back) for each of its sources."""
    works = []
    for row in rows:
        sources = tuple([("work", ahead, back) for ahead, back in row[2:]])
        works.append(work(sources or (("value", 1),), crew=row[0], long=row[1]))
    return loop_of(works, crews=crews)


# Work 1 must begin 4 times behind work 0, neither sooner nor later: for the gap 4 at the same rest.
LOCKED = loop_with(((1, 1),), [(0, 4, (1, 2)), (0, 4, (0, 0))])

# With 3 works on one machine, busy 3 of 9 times, only rests that are 3 apart are left, and the ring leaves only 4.
FULL = loop_with(((1, 3),), [(0, 4, (1, 1)), (0, 5, (0, 0)), (0, 1)])

# Loops of 8 works with many rests to try, and their shortest gaps.
HARD = [
    (25, "tried", loop_with(((1, 3),), [
        (0, 8, (4, 2), (3, 1), (6, 1)), (0, 7, (2, 1), (0, 0)), (0, 1, (1, 3), (7, 3)), (0, 2, (2, 3)),
        (0, 1, (6, 2), (5, 1), (6, 1)), (0, 1, (0, 2), (5, 1)), (0, 7, (5, 1), (1, 0)), (0, 1, (3, 0), (5, 3), (7, 2)),
    ])),
    (11, "crew", loop_with(((3, 4),), [
        (0, 1, (1, 1), (2, 3)), (0, 2, (6, 3)), (0, 4, (0, 0), (7, 3)), (0, 5, (2, 1), (3, 2), (0, 1)),
        (0, 3, (3, 1), (0, 3), (0, 0)), (0, 4, (4, 0), (2, 1), (2, 0)), (0, 6, (2, 0), (5, 1), (0, 1)),
        (0, 4, (2, 0), (3, 2), (7, 2)),
    ])),
    (12, "tried", loop_with(((2, 1), (1, 4)), [
        (0, 3, (1, 1), (5, 1), (0, 1)), (1, 1, (6, 1), (3, 1)), (0, 2, (5, 1), (0, 0)), (1, 8, (1, 0), (7, 2)),
        (0, 5, (1, 1), (7, 3), (2, 0)), (0, 7, (7, 3), (4, 2), (6, 1)), (0, 3, (0, 1), (7, 3), (2, 2)),
        (0, 3, (4, 2), (0, 1), (5, 1)),
    ])),
    (15, "tried", loop_with(((2, 4), (2, 3)), [
        (0, 7, (3, 1), (6, 3)), (0, 5, (2, 3), (2, 2), (0, 0)), (0, 1, (5, 2)), (1, 2, (2, 0), (1, 0)),
        (0, 3, (0, 1)), (0, 2, (4, 3)), (0, 1, (7, 3), (3, 3)), (0, 3, (0, 0), (2, 0), (3, 0)),
    ])),
]


class SeekingCase(unittest.TestCase):
    def good(self, loop, gap):
        plan = a_plan(loop, gap)
        self.assertIs(type(plan), tuple, (loop, gap))
        self.assertEqual([type(begin) for begin in plan], [int] * len(loop[2]))
        self.assertIsNone(wrong(loop, gap, plan), (loop, gap))
        self.assertGreaterEqual(min(plan), 0)
        self.assertLessEqual(max(plan), 600)
        return plan

    def none(self, loop, gap):
        self.assertIsNone(a_plan(loop, gap), (loop, gap))


class PlanTest(SeekingCase):
    def test_one_work(self):
        for long in (1, 3, 8):
            for back in (1, 2, 3):
                loop = loop_with(((3, 1),), [(0, long, (0, back))])
                for gap in range(1, 10):
                    if long > back * gap:
                        self.none(loop, gap)
                    else:
                        self.good(loop, gap)

    def test_busy_longer_than_the_gap(self):
        for many in (1, 2, 3):
            for busy in (1, 2, 3, 4):
                for works in (1, 2, 3):
                    loop = loop_with(((many, busy),), [(0, 2)] * works)
                    for gap in (1, 2, 3, 4):
                        with self.subTest(many=many, busy=busy, works=works, gap=gap):
                            if works * busy > many * gap:
                                self.none(loop, gap)
                            else:
                                self.good(loop, gap)

    def test_none_though_nothing_bars(self):
        for loop, gap in ((LOCKED, 4), (FULL, 9)):
            self.assertIsNone(ring(loop, gap))
            self.assertIsNone(crowd(loop, gap))
            self.assertFalse(has_plan(loop, gap))
            self.none(loop, gap)
            self.good(loop, gap + 1)

    def test_every_longer_gap_has_one_too(self):
        # One time more behind the last rest of each gap leaves a good plan good.
        for loop in loops_at_random(31, 40, 2, 6):
            for gap in range(shortest(loop)[0], 70):
                self.good(loop, gap)

    def test_gaps_1_and_200(self):
        self.good(loop_with(((3, 1),), [(0, 8), (0, 8, (0, 0)), (0, 8, (1, 0), (0, 0))]), 1)
        self.none(loop_with(((3, 1),), [(0, 8)] * 4), 1)
        self.none(loop_with(((3, 1),), [(0, 4, (0, 3))]), 1)
        self.good(loop_with(((3, 1),), [(0, 3, (0, 3))]), 1)
        for loop in loops_at_random(32, 60, 1, 8):
            for gap in (199, 200):
                self.good(loop, gap)

    def test_chains_of_8_works(self):
        rows = [(0, 8)] + [(0, 8, (own - 1, 0)) for own in range(1, 8)]
        for crews in (((1, 4),), ((2, 3),), ((3, 4),), ((1, 1),)):
            loop = loop_with(crews, rows)
            for gap in list(range(crew_gap(loop), 70)) + [100, 200]:
                self.good(loop, gap)
            if crew_gap(loop) > 1:
                self.none(loop, crew_gap(loop) - 1)

    def test_works_of_crews_that_are_never_crowded_between_others(self):
        # Work 1 has machines enough at any time; the ring through it leaves 0 and 2 one distance alone.
        loop = loop_with(((1, 2), (3, 1)), [(0, 2, (2, 1)), (1, 3, (0, 0)), (0, 4, (1, 0))])
        self.good(loop, 9)
        self.assertEqual(shortest(loop)[0], 9)
        loop = loop_with(((1, 2), (3, 1)), [(0, 2, (2, 2)), (1, 3, (0, 0)), (0, 5, (1, 0))])
        self.assertFalse(has_plan(loop, 5))
        self.none(loop, 5)
        self.assertFalse(has_plan(loop, 6))
        self.none(loop, 6)
        self.good(loop, 7)

    def test_compared_with_all_rests(self):
        seen = {"good": 0, "barred": 0, "tried": 0}
        for most_long in (2, 4, 8):
            for loop in loops_at_random(33 + most_long, 260, 2, 5, most_long):
                least = max(ring_gap(loop), crew_gap(loop))
                for gap in range(max(1, least - 1), least + 3):
                    if gap ** (len(loop[2]) - 1) > 3000:
                        continue
                    if has_plan(loop, gap):
                        self.good(loop, gap)
                        seen["good"] += 1
                    else:
                        self.none(loop, gap)
                        seen["tried" if gap >= least else "barred"] += 1
        self.assertGreater(min(seen.values()), 10)

    def test_loops_of_8_works(self):
        for loop in loops_at_random(36, 60, 8, 8):
            least = max(ring_gap(loop), crew_gap(loop))
            if least > 1:
                self.none(loop, least - 1)
            first = shortest(loop)[0]
            for gap in range(least, first):
                self.none(loop, gap)
            self.good(loop, first)
            for gap in range(first + 1, 70, 7):
                self.good(loop, gap)

    def test_8_works_around_some_that_have_no_plan(self):
        # A plan of the whole would be one of its first works too, for nothing of theirs hangs on the others.
        chance = random.Random(37)
        found = 0
        for loop in loops_at_random(38, 1500, 2, 4, 4):
            least = max(ring_gap(loop), crew_gap(loop))
            if least > 6 or has_plan(loop, least):
                continue
            found += 1
            works = list(loop[2])
            while len(works) < 8:
                sources = tuple([("work", chance.randrange(len(works)), chance.randrange(4)) for k in range(2)])
                works.append(work(sources, crew=chance.randrange(len(loop[1])), long=chance.randint(1, 8)))
            for gap in range(1, least + 1):
                self.none(loop_of(works, crews=loop[1]), gap)
        self.assertGreater(found, 10)


class ShortestTest(SeekingCase):
    def told(self, loop):
        """(gap, why), both asked for as far as can be without the answer."""
        told = shortest(loop)
        self.assertIs(type(told), tuple)
        gap, why = told
        self.assertIs(type(gap), int)
        self.assertIs(type(why), tuple)
        self.good(loop, gap)
        barring = None if gap == 1 else ring(loop, gap - 1)
        crowded = None if gap == 1 else crowd(loop, gap - 1)
        if gap == 1:
            self.assertEqual(why, ("first",))
        elif barring is not None:
            self.assertEqual((len(why), why[0]), (2, "ring"))
            self.assertTrue(is_bar(loop, gap - 1, why[1]))
        elif crowded is not None:
            self.assertEqual(why, ("crew", crowded))
        else:
            self.assertEqual(why, ("tried",))
        return told

    def test_first(self):
        self.assertEqual(self.told(loop_with(((1, 1),), [(0, 8)])), (1, ("first",)))
        self.assertEqual(self.told(loop_with(((3, 1),), [(0, 8), (0, 8, (0, 0)), (0, 8, (1, 3))])), (1, ("first",)))
        self.assertEqual(self.told(loop_with(((3, 3),), [(0, 1)])), (1, ("first",)))

    def test_ring(self):
        self.assertEqual(self.told(loop_with(((1, 1),), [(0, 8, (0, 1))])), (8, ("ring", [(0, 0, 1)])))
        self.assertEqual(self.told(loop_with(((1, 1),), [(0, 8, (0, 3))])), (3, ("ring", [(0, 0, 3)])))
        gap, why = self.told(loop_with(((1, 1),), [(0, 3, (1, 1)), (0, 4, (0, 0))]))
        self.assertEqual((gap, why[0], sorted(why[1])), (7, "ring", [(0, 1, 0), (1, 0, 1)]))

    def test_crew(self):
        self.assertEqual(self.told(loop_with(((1, 4),), [(0, 1), (0, 1)])), (8, ("crew", 0)))
        self.assertEqual(self.told(loop_with(((3, 1), (3, 4)), [(0, 1), (1, 1), (1, 1)])), (3, ("crew", 1)))
        self.assertEqual(self.told(loop_with(((1, 4), (1, 3)), [(0, 8), (1, 1), (1, 1)])), (6, ("crew", 1)))
        self.assertEqual(self.told(loop_with(((1, 3), (1, 3)), [(0, 8), (1, 1)])), (3, ("crew", 0)))

    def test_ring_ahead_of_crew(self):
        loop = loop_with(((1, 4),), [(0, 4, (0, 1))])
        self.assertEqual(crowd(loop, 3), 0)
        self.assertEqual(self.told(loop), (4, ("ring", [(0, 0, 1)])))

    def test_a_crew_that_bars_more_than_a_ring(self):
        self.assertEqual(self.told(loop_with(((1, 4),), [(0, 3, (0, 1))])), (4, ("crew", 0)))

    def test_tried(self):
        self.assertEqual(self.told(LOCKED), (5, ("tried",)))
        self.assertEqual(self.told(FULL), (10, ("tried",)))

    def test_tried_beyond_a_ring_and_a_crew(self):
        seen = 0
        for loop in loops_at_random(41, 1500, 2, 4, 4):
            gap, why = self.told(loop)
            least = max(ring_gap(loop), crew_gap(loop))
            self.assertGreaterEqual(gap, least)
            self.assertEqual(why == ("tried",), gap > least)
            if gap > least:
                seen += 1
                for lesser in range(1, gap):
                    self.assertFalse(has_plan(loop, lesser))
        self.assertGreater(seen, 20)

    def test_compared_with_all_rests(self):
        for loop in loops_at_random(42, 300, 1, 4, 3):
            first = self.told(loop)[0]
            if first <= 8:
                plans = [has_plan(loop, gap) for gap in range(1, first + 1)]
                self.assertEqual(plans, [False] * (first - 1) + [True])

    def test_loops_of_8_works(self):
        for loop in loops_at_random(43, 150, 8, 8):
            first = self.told(loop)[0]
            self.assertLessEqual(first, plainly(loop)[0])

    def test_hard_loops(self):
        for first, kind, loop in HARD:
            gap, why = self.told(loop)
            self.assertEqual((gap, why[0]), (first, kind))

    def test_the_greatest(self):
        rows = [(0, 8, (7, 1))] + [(0, 8, (own - 1, 0)) for own in range(1, 8)]
        gap, why = self.told(loop_with(((1, 4),), rows))
        self.assertEqual((gap, why[0], len(why[1])), (64, "ring", 8))

    def test_a_sample(self):
        self.assertEqual(self.told(LOOP), (4, ("crew", 0)))
        self.assertIsNone(plain_wrong(LOOP, 4, a_plan(LOOP, 4)))

    def test_equal_loops_and_new_lists(self):
        for loop in loops_at_random(44, 40, 1, 8):
            first = shortest(loop)
            self.assertEqual(first, shortest(rebuilt(loop)))
            self.assertEqual(a_plan(loop, first[0]), a_plan(rebuilt(loop), first[0]))
            if first[1][0] == "ring":
                kept = list(first[1][1])
                first[1][1].append("more")
                self.assertEqual(shortest(loop)[1][1], kept)


if __name__ == "__main__":
    unittest.main()
