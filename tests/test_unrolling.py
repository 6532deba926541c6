import random
import unittest

from roundlap.errors import NoLoop, NoRounds, TooBig
from roundlap.loops import checked
from roundlap.seeking import shortest
from roundlap.unrolling import rows_together, unrolled
from roundlap.values import answers
from tests.oracles import dressed_loops, inputs_at_random
from tests.samples import LOOP, STRANGE, Hostile, loop_of, rebuilt, replaced, work

# For each number of times, for each round within the new one, for each back: the round within, and the back.
MEANT = {
    2: [[(0, 0), (1, 1), (0, 1), (1, 2)], [(1, 0), (0, 0), (1, 1), (0, 1)]],
    3: [
        [(0, 0), (2, 1), (1, 1), (0, 1)], [(1, 0), (0, 0), (2, 1), (1, 1)], [(2, 0), (1, 0), (0, 0), (2, 1)],
    ],
}


class UnrolledTest(unittest.TestCase):
    def test_by_2(self):
        self.assertEqual(unrolled(LOOP, 2), (
            4,
            ((1, 2), (2, 1)),
            (
                (0, 3, "plus", (("input", 0), ("value", 5)), (2, 0, 0)),
                (1, 1, "times", (("work", 0, 0), ("work", 4, 1), ("input", 1)), (5, 0, 0)),
                (0, 2, "less", (("work", 5, 2), ("work", 1, 0)), (8, 0, 0)),
                (0, 3, "plus", (("input", 2), ("value", 5)), (1, 3, 0)),
                (1, 1, "times", (("work", 3, 0), ("work", 1, 0), ("input", 3)), (4, 6, 0)),
                (0, 2, "less", (("work", 2, 1), ("work", 4, 0)), (7, 9, 0)),
            ),
            (0, 2, 3, 5),
        ))

    def test_by_3(self):
        loop = (
            2,
            ((3, 4), (1, 1), (2, 2)),
            (
                (2, 8, "least", (("input", 1), ("work", 1, 1)), (11, 12, 13)),
                (0, 1, "greatest", (("work", 0, 0), ("value", 9972), ("work", 0, 3)), (21, 22, 23)),
            ),
            (1,),
        )
        self.assertEqual(unrolled(loop, 3), (
            6,
            ((3, 4), (1, 1), (2, 2)),
            (
                (2, 8, "least", (("input", 1), ("work", 5, 1)), (13, 0, 0)),
                (0, 1, "greatest", (("work", 0, 0), ("value", 9972), ("work", 0, 1)), (23, 0, 0)),
                (2, 8, "least", (("input", 3), ("work", 1, 0)), (12, 0, 0)),
                (0, 1, "greatest", (("work", 2, 0), ("value", 9972), ("work", 2, 1)), (22, 0, 0)),
                (2, 8, "least", (("input", 5), ("work", 3, 0)), (11, 0, 0)),
                (0, 1, "greatest", (("work", 4, 0), ("value", 9972), ("work", 4, 1)), (21, 0, 0)),
            ),
            (1, 3, 5),
        ))

    def test_each_back(self):
        for times, parts in MEANT.items():
            for back in range(4):
                told = unrolled(loop_of([work(), work((("work", 0, back),))]), times)
                sources = [told[2][2 * part + 1][3] for part in range(times)]
                expected = [(("work", 2 * row[back][0], row[back][1]),) for row in parts]
                self.assertEqual(sources, expected, (times, back))

    def test_an_own_answer(self):
        for times, parts in MEANT.items():
            for back in (1, 2, 3):
                told = unrolled(loop_of([work((("work", 0, back),))]), times)
                expected = [(("work",) + row[back],) for row in parts]
                self.assertEqual([one[3] for one in told[2]], expected)

    def test_starts_are_those_of_the_rounds_that_they_mean(self):
        loop = loop_of([work(starts=(1, 2, 3))])
        self.assertEqual([one[4] for one in unrolled(loop, 2)[2]], [(2, 0, 0), (1, 3, 0)])
        self.assertEqual([one[4] for one in unrolled(loop, 3)[2]], [(3, 0, 0), (2, 0, 0), (1, 0, 0)])

    def test_no_streams_and_all_outs(self):
        told = unrolled(loop_of([work(), work()]), 3)
        self.assertEqual((told[0], told[3]), (0, (0, 1, 2, 3, 4, 5)))

    def test_the_answers_of_a_written_loop(self):
        loop = loop_of([work((("work", 0, 3), ("input", 0)), (10, 20, 30))], streams=1)
        # Plainly: 31, 22, 13, 35, 27, 19.
        inputs = [(1,), (2,), (3,), (4,), (5,), (6,)]
        self.assertEqual(answers(unrolled(loop, 2), rows_together(inputs, 2)), [(31, 22), (13, 35), (27, 19)])
        self.assertEqual(answers(unrolled(loop, 3), rows_together(inputs, 3)), [(31, 22, 13), (35, 27, 19)])

    def test_the_answers_are_the_loops_put_together(self):
        chance = random.Random(81)
        for times, most_works, most_streams in [(2, 4, 3), (3, 2, 2)]:
            for streams in range(most_streams + 1):
                for loop in dressed_loops(82 + streams, 80, 1, most_works, streams=streams):
                    other = unrolled(loop, times)
                    self.assertEqual(checked(other), other)
                    inputs = inputs_at_random(chance, streams, chance.choice((0, 1, 2, 3, 5, 12, 40)))
                    told = answers(other, rows_together(inputs, times))
                    self.assertEqual(told, rows_together(answers(loop, inputs), times))

    def test_the_shortest_gap_is_no_longer(self):
        for times, most_works in [(2, 4), (3, 2)]:
            for loop in dressed_loops(87, 60, 1, most_works, streams=0):
                self.assertLessEqual(shortest(unrolled(loop, times))[0], times * shortest(loop)[0])

    def test_the_shortest_gap_may_be_shorter(self):
        # A ring of long 3 and back 2 has the shortest gap 2, and unrolled by two 3.
        loop = loop_of([work((("work", 0, 2),), long=3)])
        self.assertEqual((shortest(loop)[0], shortest(unrolled(loop, 2))[0]), (2, 3))

    def test_kinds(self):
        told = unrolled(LOOP, 2)
        self.assertIs(type(told), tuple)
        self.assertEqual([type(part) for part in told], [int, tuple, tuple, tuple])
        for one in told[2]:
            self.assertEqual([type(part) for part in one], [int, int, str, tuple, tuple])


class TooBigTest(unittest.TestCase):
    def test_works(self):
        for times, most in [(2, 4), (3, 2)]:
            for many in range(1, 9):
                loop = loop_of([work()] * many)
                if many <= most:
                    self.assertEqual(len(unrolled(loop, times)[2]), many * times)
                else:
                    with self.assertRaises(TooBig):
                        unrolled(loop, times)

    def test_streams(self):
        for times, most in [(2, 3), (3, 2)]:
            for streams in range(7):
                loop = loop_of([work()], streams=streams)
                if streams <= most:
                    self.assertEqual(unrolled(loop, times)[0], streams * times)
                else:
                    with self.assertRaises(TooBig):
                        unrolled(loop, times)

    def test_both(self):
        with self.assertRaises(TooBig):
            unrolled(loop_of([work()] * 8, streams=6), 2)

    def test_the_times_are_asked_first(self):
        for times in (0, 1, 4, True, None, "2", Hostile()):
            with self.assertRaises(NoRounds):
                unrolled(loop_of([work()] * 8, streams=6), times)

    def test_the_loop_is_asked_ahead_of_all(self):
        for times in (2, 3, 1, None):
            for loop in (None, replaced(LOOP, (0,), 7), (6, ((1, 1),), (work(),) * 9, (0,))):
                with self.assertRaises(NoLoop):
                    unrolled(loop, times)

    def test_no_times(self):
        small = loop_of([work()])
        for times in [0, 1, 4, -1, -2, 5, 10 ** 30, True, False, "2", "", [2], (2,), 2.0, 3.0, None] + STRANGE:
            with self.assertRaises(NoRounds):
                unrolled(small, times)


class TogetherTest(unittest.TestCase):
    def test_no_rows(self):
        for times in (1, 2, 3, 4):
            self.assertEqual(rows_together([], times), [])

    def test_by_2(self):
        self.assertEqual(rows_together([(1,), (2,), (3,), (4,)], 2), [(1, 2), (3, 4)])
        self.assertEqual(rows_together([(1, 2), (3, 4)], 2), [(1, 2, 3, 4)])

    def test_by_3(self):
        self.assertEqual(rows_together([(k,) for k in range(6)], 3), [(0, 1, 2), (3, 4, 5)])

    def test_the_rest_is_left_out(self):
        rows = [(1,), (2,), (3,), (4,), (5,)]
        self.assertEqual(rows_together(rows, 2), [(1, 2), (3, 4)])
        self.assertEqual(rows_together(rows, 3), [(1, 2, 3)])
        self.assertEqual(rows_together(rows[:4], 3), [(1, 2, 3)])
        self.assertEqual(rows_together(rows[:1], 2), [])
        self.assertEqual(rows_together(rows[:2], 3), [])

    def test_empty_tuples(self):
        self.assertEqual(rows_together([()] * 5, 2), [(), ()])
        self.assertEqual(rows_together([()] * 6, 3), [(), ()])
        self.assertEqual(rows_together([(), (1,), (), ()], 2), [(1,), ()])

    def test_other_numbers_are_not_refused(self):
        rows = [(1,), (2,), (3,), (4,), (5,)]
        self.assertEqual(rows_together(rows, 1), rows)
        self.assertEqual(rows_together(rows, 4), [(1, 2, 3, 4)])
        self.assertEqual(rows_together(rows, 6), [])

    def test_a_new_list(self):
        rows = [(1,), (2,)]
        for times in (1, 2):
            told = rows_together(rows, times)
            again = rows_together(rows, times)
            self.assertIs(type(told), list)
            self.assertEqual(told, again)
            told.append("more")
            self.assertEqual(rows_together(rows, times), again)
        self.assertEqual(rows, [(1,), (2,)])

    def test_rows_of_other_lengths(self):
        self.assertEqual(rows_together([(1,), (2, 3), (), (4, 5, 6)], 2), [(1, 2, 3), (4, 5, 6)])


class EqualTest(unittest.TestCase):
    def test_equal_loops_unrolled(self):
        self.assertEqual(unrolled(rebuilt(LOOP), 2), unrolled(LOOP, 2))


if __name__ == "__main__":
    unittest.main()
