import unittest

from roundlap.bars import crew_gap, crowd, is_bar, ring, ring_gap
from tests.oracles import all_rings, crew_bars, loops_at_random, ring_bars
from tests.samples import LOOP, STRANGE, Hostile, loop_of, work

# One ring 0 -> 1 -> 2 -> 0 with needs of back 0 within it, 3 + 4 + 5 long and 2 back; 3 needs 2 and is on no ring.
THREE = loop_of([
    work((("work", 2, 2),), long=3),
    work((("work", 0, 0),), long=4),
    work((("work", 1, 0),), long=5),
    work((("work", 2, 0),), long=8),
])
THREE_RING = [(0, 1, 0), (1, 2, 0), (2, 0, 2)]

# Between 0 and 1 two needs each way, with different backs.
TWICE = loop_of([work((("work", 1, 3), ("work", 1, 1)), long=5), work((("work", 0, 0), ("work", 0, 2)), long=2)])


def alone(back, long):
    return loop_of([work((("work", 0, back),), long=long)])


def in_a_row(many, long, back):
    """A ring of so many works, that goes back once."""
    works = [work((("work", many - 1, back),), long=long)]
    works.extend([work((("work", own - 1, 0),), long=long) for own in range(1, many)])
    return loop_of(works)


class RingTest(unittest.TestCase):
    def bars(self, loop, gap, expected=None):
        told = ring(loop, gap)
        self.assertIs(type(told), list)
        self.assertIn(told, all_rings(loop))
        self.assertTrue(ring_bars(loop, gap, told))
        self.assertIs(is_bar(loop, gap, told), True)
        for need in told:
            self.assertIs(type(need), tuple)
        if expected is not None:
            self.assertEqual(sorted(told), expected)

    def bars_not(self, loop, gap):
        self.assertIsNone(ring(loop, gap))
        for other in all_rings(loop):
            self.assertIs(is_bar(loop, gap, other), False)

    def test_one_work(self):
        for back in (1, 2, 3):
            for long in range(1, 9):
                for gap in range(1, 11):
                    with self.subTest(back=back, long=long, gap=gap):
                        if long > gap * back:
                            self.bars(alone(back, long), gap, [(0, 0, back)])
                        else:
                            self.bars_not(alone(back, long), gap)

    def test_two_works(self):
        loop = loop_of([work((("work", 1, 1),), long=3), work((("work", 0, 0),), long=4)])
        self.bars(loop, 6, [(0, 1, 0), (1, 0, 1)])
        self.bars_not(loop, 7)

    def test_needs_of_back_0_within_a_ring_of_three(self):
        self.bars(THREE, 5, THREE_RING)
        self.bars_not(THREE, 6)

    def test_two_needs_between_the_same_works(self):
        self.bars(TWICE, 6, [(0, 1, 0), (1, 0, 1)])
        self.bars_not(TWICE, 7)
        self.assertTrue(is_bar(TWICE, 2, [(0, 1, 2), (1, 0, 1)]))
        self.assertFalse(is_bar(TWICE, 3, [(0, 1, 2), (1, 0, 1)]))
        self.assertTrue(is_bar(TWICE, 1, [(1, 0, 3), (0, 1, 2)]))
        self.assertFalse(is_bar(TWICE, 2, [(1, 0, 3), (0, 1, 2)]))

    def test_rings_of_every_length(self):
        for many in range(2, 9):
            for back in (1, 2, 3):
                loop = in_a_row(many, 7, back)
                least = -(-7 * many // back)
                with self.subTest(many=many, back=back):
                    self.bars(loop, least - 1)
                    self.assertEqual(len(ring(loop, least - 1)), many)
                    self.bars_not(loop, least)

    def test_a_long_ring_among_short_ones_that_do_not_bar(self):
        # Every work is a ring by itself that bars nothing from gap 1 on.
        works = [work((("work", 0, 1), ("work", 3, 1)), long=1)]
        works.extend([work((("work", own, 1), ("work", own - 1, 0)), long=1) for own in range(1, 4)])
        self.bars(loop_of(works), 3, [(0, 1, 0), (1, 2, 0), (2, 3, 0), (3, 0, 1)])
        self.bars_not(loop_of(works), 4)

    def test_a_short_ring_within_a_long_one(self):
        works = [work((("work", 2, 3), ("work", 1, 1)), long=8), work((("work", 0, 0),), long=8), work((("work", 1, 0),))]
        self.bars(loop_of(works), 15, [(0, 1, 0), (1, 0, 1)])
        self.bars_not(loop_of(works), 16)

    def test_rings_that_meet_in_a_work(self):
        # Both through work 0, each just not barring 6; together no ring, for 0 would be ahead twice.
        sources = (("work", 1, 1), ("work", 2, 1))
        loop = loop_of([work(sources, long=3), work((("work", 0, 0),), long=3), work((("work", 0, 0),), long=3)])
        self.bars_not(loop, 6)
        self.bars(loop, 5)
        eight = [(0, 1, 0), (1, 0, 1), (0, 2, 0), (2, 0, 1)]
        self.assertFalse(is_bar(loop, 5, eight))

    def test_no_rings(self):
        for loop in (loop_of([work()]), loop_of([work(long=8), work((("work", 0, 3), ("work", 0, 0)), long=8)])):
            for gap in (1, 2, 200):
                self.bars_not(loop, gap)

    def test_gaps_1_and_200(self):
        self.bars(in_a_row(8, 8, 1), 1)
        self.bars_not(in_a_row(8, 8, 1), 200)
        self.bars(in_a_row(8, 8, 1), 63)
        self.bars_not(in_a_row(8, 8, 1), 64)

    def test_compared_with_all_rings(self):
        for loop in loops_at_random(21, 250, 1, 6):
            rings = all_rings(loop)
            for gap in (1, 2, 3, 5, 8, 11, 16, 24):
                if any([ring_bars(loop, gap, one) for one in rings]):
                    self.bars(loop, gap)
                else:
                    self.assertIsNone(ring(loop, gap), (loop, gap))
                for one in rings:
                    self.assertIs(is_bar(loop, gap, one), ring_bars(loop, gap, one))

    def test_loops_of_8_works(self):
        for loop in loops_at_random(22, 100, 8, 8):
            least = ring_gap(loop)
            self.assertIsNone(ring(loop, least))
            if least > 1:
                self.bars(loop, least - 1)

    def test_a_new_list_each_time(self):
        first = ring(THREE, 5)
        kept = list(first)
        first.clear()
        self.assertEqual(ring(THREE, 5), kept)


class IsBarTest(unittest.TestCase):
    def is_none(self, loop, gap, thing):
        self.assertIs(is_bar(loop, gap, thing), False)

    def test_from_each_of_its_works_on(self):
        for turn in range(3):
            thing = THREE_RING[turn:] + THREE_RING[:turn]
            self.assertIs(is_bar(THREE, 5, thing), True)
            self.assertIs(is_bar(THREE, 6, thing), False)

    def test_just_barred(self):
        self.assertIs(is_bar(alone(1, 8), 7, [(0, 0, 1)]), True)
        self.is_none(alone(1, 8), 8, [(0, 0, 1)])
        self.assertIs(is_bar(alone(3, 7), 2, [(0, 0, 3)]), True)
        self.is_none(alone(3, 6), 2, [(0, 0, 3)])

    def test_no_lists(self):
        things = [tuple(THREE_RING), {need: True for need in THREE_RING}, set(THREE_RING), THREE_RING[0], 5, True, False]
        for thing in STRANGE + things:
            with self.subTest(kind=type(thing)):
                self.is_none(THREE, 5, thing)

    def test_an_empty_list(self):
        self.is_none(THREE, 5, [])

    def test_things_of_any_kind_for_each_need(self):
        for place in range(3):
            for thing in STRANGE + [0, True, list(THREE_RING[place]), THREE_RING, (THREE_RING[place],)]:
                with self.subTest(place=place, kind=type(thing)):
                    self.is_none(THREE, 5, THREE_RING[:place] + [thing] + THREE_RING[place + 1:])
                    self.is_none(THREE, 5, THREE_RING + [thing])
                    self.is_none(THREE, 5, [thing] + THREE_RING)

    def test_things_of_any_kind_for_each_number(self):
        for place in range(3):
            need = THREE_RING[place]
            for part in range(3):
                for thing in STRANGE + [-1, 4, 10 ** 30, float(need[part]), str(need[part])]:
                    changed = need[:part] + (thing,) + need[part + 1:]
                    with self.subTest(place=place, part=part, kind=type(thing)):
                        self.is_none(THREE, 5, THREE_RING[:place] + [changed] + THREE_RING[place + 1:])

    def test_true_and_false_in_the_place_of_numbers(self):
        self.is_none(alone(1, 8), 1, [(0, 0, True)])
        self.is_none(alone(1, 8), 1, [(False, 0, 1)])
        self.is_none(alone(1, 8), 1, [(0, False, 1)])
        self.is_none(THREE, 5, [(0, True, 0), (1, 2, 0), (2, 0, 2)])
        self.is_none(THREE, 5, [(0, 1, 0), (True, 2, 0), (2, 0, 2)])
        self.is_none(THREE, 5, [(0, 1, False), (1, 2, 0), (2, 0, 2)])

    def test_needs_too_short_and_too_long(self):
        for place in range(3):
            for changed in (THREE_RING[place][:2], THREE_RING[place] + (0,), ()):
                self.is_none(THREE, 5, THREE_RING[:place] + [changed] + THREE_RING[place + 1:])

    def test_needs_that_are_none_of_the_loop(self):
        self.is_none(THREE, 5, [(0, 1, 0), (1, 2, 0), (2, 0, 1)])
        self.is_none(THREE, 5, [(0, 2, 0), (2, 0, 2)])
        self.is_none(THREE, 1, [(3, 3, 1)])
        self.is_none(THREE, 1, [(0, 0, 0)])
        self.is_none(loop_of([work(long=8)]), 1, [(0, 0, 1)])

    def test_rings_that_are_not_closed(self):
        self.is_none(THREE, 1, THREE_RING[:1])
        self.is_none(THREE, 1, THREE_RING[:2])
        self.is_none(THREE, 1, THREE_RING[1:])
        self.is_none(THREE, 1, [(0, 1, 0), (1, 2, 0), (2, 3, 0)])
        self.is_none(TWICE, 1, [(0, 1, 0)])

    def test_needs_that_do_not_follow_one_another(self):
        self.is_none(THREE, 1, [THREE_RING[0], THREE_RING[2], THREE_RING[1]])
        self.is_none(THREE, 1, [(2, 0, 2), (1, 2, 0), (0, 1, 0)])
        two = loop_of([work((("work", 0, 1),), long=8), work((("work", 1, 1),), long=8)])
        self.assertIs(is_bar(two, 1, [(1, 1, 1)]), True)
        self.is_none(two, 1, [(0, 0, 1), (1, 1, 1)])

    def test_a_work_ahead_twice(self):
        self.is_none(THREE, 5, THREE_RING + THREE_RING)
        self.is_none(alone(1, 8), 1, [(0, 0, 1), (0, 0, 1)])
        self.is_none(TWICE, 1, [(0, 1, 0), (1, 0, 1), (0, 1, 2), (1, 0, 3)])
        self.is_none(alone(1, 8), 1, [(0, 0, 1)] * 1000)

    def test_a_list_that_holds_itself(self):
        endless = []
        endless.append(endless)
        self.is_none(THREE, 5, endless)

    def test_what_is_asked_is_the_same_afterwards(self):
        thing = list(THREE_RING)
        is_bar(THREE, 5, thing)
        is_bar(THREE, 6, thing)
        self.assertEqual(thing, THREE_RING)
        mixed = [[0, 1, 0], (1, 2, 0)]
        is_bar(THREE, 5, mixed)
        self.assertEqual(mixed, [[0, 1, 0], (1, 2, 0)])

    def test_nothing_but_its_kind_is_asked_of_a_strange_thing(self):
        self.is_none(THREE, 5, Hostile())
        self.is_none(THREE, 5, [Hostile()])
        self.is_none(THREE, 5, [(Hostile(), Hostile(), Hostile())])


class CrowdTest(unittest.TestCase):
    def test_just_barred_and_just_not(self):
        for many in (1, 2, 3):
            for busy in (1, 2, 3, 4):
                for works in range(1, 9):
                    loop = loop_of([work()] * works, crews=((many, busy),))
                    for gap in range(1, 34):
                        self.assertEqual(crowd(loop, gap), 0 if works * busy > gap * many else None)
                    self.assertIsNone(crowd(loop, 200))

    def test_the_first_of_several(self):
        crews = ((1, 1), (1, 3), (1, 4))
        loop = loop_of([work(crew=2), work(crew=2), work(crew=1), work(crew=1), work(crew=0)], crews=crews)
        expected = [1, 1, 1, 1, 1, 2, 2, None, None]
        self.assertEqual([crowd(loop, gap) for gap in range(1, 10)], expected)

    def test_the_first_of_all(self):
        loop = loop_of([work(crew=1), work(crew=0)], crews=((1, 2), (1, 2)))
        self.assertEqual(crowd(loop, 1), 0)
        self.assertIs(type(crowd(loop, 1)), int)

    def test_a_crew_without_works(self):
        self.assertIsNone(crowd(loop_of([work(crew=1)], crews=((1, 4), (1, 1))), 1))


class LeastGapsTest(unittest.TestCase):
    def test_rings_by_hand(self):
        for loop, least in [(THREE, 6), (TWICE, 7), (LOOP, 1), (alone(3, 8), 3), (alone(1, 8), 8), (alone(2, 8), 4)]:
            self.assertEqual(ring_gap(loop), least)

    def test_crews_by_hand(self):
        self.assertEqual(crew_gap(LOOP), 4)
        self.assertEqual(crew_gap(loop_of([work()] * 8, crews=((3, 4),))), 11)
        self.assertEqual(crew_gap(loop_of([work()] * 8, crews=((2, 4),))), 16)
        self.assertEqual(crew_gap(loop_of([work()] * 8, crews=((1, 4),))), 32)
        self.assertEqual(crew_gap(loop_of([work()], crews=((3, 1),))), 1)
        works = [work(crew=0), work(crew=1), work(crew=1), work(crew=2)]
        self.assertEqual(crew_gap(loop_of(works, crews=((2, 3), (1, 2), (1, 3)))), 4)

    def test_loops_without_needs(self):
        loop = loop_of([work(long=8)] * 8, crews=((1, 4),))
        self.assertEqual(ring_gap(loop), 1)
        self.assertEqual(crew_gap(loop), 32)

    def test_the_greatest(self):
        self.assertEqual(ring_gap(in_a_row(8, 8, 1)), 64)

    def test_one_less_is_barred(self):
        for loop in loops_at_random(23, 250, 1, 6):
            rings = all_rings(loop)
            least = ring_gap(loop)
            self.assertFalse(any([ring_bars(loop, least, one) for one in rings]))
            self.assertTrue(least == 1 or any([ring_bars(loop, least - 1, one) for one in rings]))
            crews = range(len(loop[1]))
            least = crew_gap(loop)
            self.assertFalse(any([crew_bars(loop, least, crew) for crew in crews]))
            self.assertTrue(least == 1 or any([crew_bars(loop, least - 1, crew) for crew in crews]))
            self.assertIsNone(crowd(loop, least))

    def test_kinds(self):
        self.assertIs(type(ring_gap(THREE)), int)
        self.assertIs(type(crew_gap(THREE)), int)


if __name__ == "__main__":
    unittest.main()
