import copy
import unittest

from roundlap.errors import NoInputs, NoLoop
from roundlap.values import answers
from tests.samples import LOOP, STRANGE, Hostile, loop_of, rebuilt, replaced, work


def one_work(doing, *values):
    """The answer of a work to values, as written ones, as inputs, and as starts."""
    written = loop_of([work(tuple([("value", value) for value in values]), doing=doing)])
    heard = loop_of([work(tuple([("input", k) for k in range(len(values))]), doing=doing)], streams=len(values))
    holders = [work((("value", 0),), (value, 0, 0)) for value in values]
    sources = tuple([("work", k, 1) for k in range(len(values))])
    kept = loop_of(holders + [work(sources, doing=doing)], (len(values),))
    return answers(written, [()]), answers(heard, [values]), answers(kept, [()])


class WordsTest(unittest.TestCase):
    def expect(self, rows):
        for doing, values, answer in rows:
            with self.subTest(doing, values=values):
                self.assertEqual(one_work(doing, *values), ([(answer,)], [(answer,)], [(answer,)]))

    def test_one_two_and_three_sources(self):
        self.expect([
            ("plus", (7,), 7), ("plus", (7, 20), 27), ("plus", (7, 20, 3), 30),
            ("less", (7,), 7), ("less", (20, 7), 13), ("less", (20, 7, 3), 10),
            ("times", (7,), 7), ("times", (7, 20), 140), ("times", (7, 20, 3), 420),
            ("least", (7,), 7), ("least", (7, 20), 7), ("least", (20, 7), 7), ("least", (7, 20, 3), 3),
            ("least", (3, 7, 20), 3), ("least", (7, 3, 20), 3),
            ("greatest", (7,), 7), ("greatest", (7, 20), 20), ("greatest", (20, 7), 20), ("greatest", (7, 3, 20), 20),
            ("greatest", (20, 3, 7), 20), ("greatest", (7, 20, 3), 20),
        ])

    def test_the_rest_by_9973(self):
        self.expect([
            ("plus", (9972, 1), 0), ("plus", (9972, 0), 9972), ("plus", (9972, 9972), 9971),
            ("plus", (9972, 9972, 9972), 9970),
            ("less", (0, 1), 9972), ("less", (0, 9972), 1), ("less", (0, 9972, 9972), 2), ("less", (5, 3, 4), 9971),
            ("less", (5, 5), 0), ("less", (9972,), 9972), ("less", (1, 9972, 9972), 3),
            ("times", (9972, 9972), 1), ("times", (9972, 9972, 9972), 9972), ("times", (100, 100), 27),
            ("times", (9972, 0), 0), ("times", (9972,), 9972),
            ("least", (9972, 9972, 9972), 9972), ("least", (0, 9972), 0),
            ("greatest", (9972, 0), 9972), ("greatest", (0, 0, 0), 0),
        ])

    def test_the_same_source_twice(self):
        twice = (("input", 0), ("input", 0))
        for doing, answer in [("plus", 12), ("less", 0), ("times", 36), ("least", 6), ("greatest", 6)]:
            with self.subTest(doing):
                self.assertEqual(answers(loop_of([work(twice, doing=doing)], streams=1), [(6,)]), [(answer,)])


class RoundsTest(unittest.TestCase):
    def test_starts_are_those_of_the_rounds_minus_1_minus_2_minus_3(self):
        expected = {1: [10, 1, 2, 3, 4], 2: [20, 10, 1, 2, 3], 3: [30, 20, 10, 1, 2]}
        inputs = [(1,), (2,), (3,), (4,), (5,)]
        for back, row in expected.items():
            with self.subTest(back=back):
                works = [work((("input", 0),), (10, 20, 30)), work((("work", 0, back),))]
                self.assertEqual(answers(loop_of(works, (1,), 1), inputs), [(value,) for value in row])

    def test_back_0_is_the_same_round(self):
        works = [work((("input", 0),), (10, 20, 30)), work((("work", 0, 0), ("value", 1)), (40, 50, 60))]
        self.assertEqual(answers(loop_of(works, streams=1), [(1,), (2,), (3,)]), [(1, 2), (2, 3), (3, 4)])

    def test_a_work_that_has_itself(self):
        count = work((("work", 0, 1), ("value", 2)), (5, 0, 0))
        self.assertEqual(answers(loop_of([count]), [()] * 4), [(7,), (9,), (11,), (13,)])
        third = work((("work", 0, 3), ("value", 100)), (1, 2, 3))
        self.assertEqual(answers(loop_of([third]), [()] * 5), [(103,), (102,), (101,), (203,), (202,)])
        fibonacci = work((("work", 0, 1), ("work", 0, 2)), (1, 0, 0))
        self.assertEqual(answers(loop_of([fibonacci]), [()] * 6), [(1,), (2,), (3,), (5,), (8,), (13,)])

    def test_a_work_that_has_a_later_one(self):
        works = [
            work((("work", 1, 1),), (0, 0, 0)),
            work((("work", 0, 0), ("input", 0)), (50, 60, 70)),
        ]
        self.assertEqual(answers(loop_of(works, streams=1), [(1,), (2,), (3,)]), [(50, 51), (51, 53), (53, 56)])

    def test_each_work_has_its_own_starts(self):
        works = [
            work((("work", 1, 2), ("work", 0, 1)), (1, 2, 3), "less"),
            work((("work", 0, 3), ("work", 1, 1)), (40, 50, 60)),
        ]
        self.assertEqual(answers(loop_of(works), [()] * 3), [(49, 43), (9964, 45), (52, 46)])

    def test_starts_that_nothing_has_make_no_difference(self):
        loop = replaced(LOOP, (2, 0, 4), (9, 9, 9))
        inputs = [(1, 2), (3, 4)]
        self.assertEqual(answers(loop, inputs), answers(LOOP, inputs))

    def test_a_loop_by_hand(self):
        inputs = [(1, 2), (3, 3), (0, 1), (9972, 5)]
        self.assertEqual(answers(LOOP, inputs), [
            (6, 9934),  # 1 + 5; 6 * 4 * 2 = 48; 9 - 48 = -39
            (8, 8829),  # 3 + 5; 8 * 48 * 3 = 1152; 8 - 1152 = -1144
            (5, 4220),  # 0 + 5; 5 * 1152 * 1 = 5760; 7 - 5760 = -5753
            (4, 4437),  # 9972 + 5, rest 4; 4 * 5760 * 5 = 115200, rest 5497; 9934 - 5497
        ])

    def test_streams(self):
        sources = tuple([("input", k) for k in (5, 0, 3)])
        loop = loop_of([work(sources, doing="less")], streams=6)
        self.assertEqual(answers(loop, [(1, 10, 100, 2, 1000, 9), (0, 0, 0, 4, 0, 3)]), [(6,), (9972,)])

    def test_streams_that_nothing_hears(self):
        self.assertEqual(answers(loop_of([work()], streams=2), [(1, 2), (3, 4)]), [(1,), (1,)])

    def test_outs_leave_works_out(self):
        works = [work((("value", k),)) for k in range(8)]
        for outs in ((0,), (7,), (1, 4), (0, 3, 7), tuple(range(8))):
            with self.subTest(outs=outs):
                self.assertEqual(answers(loop_of(works, outs), [(), ()]), [outs, outs])

    def test_0_and_1_and_40_rounds(self):
        count = loop_of([work((("work", 0, 1), ("input", 0)), (0, 0, 0))], streams=1)
        self.assertEqual(answers(count, []), [])
        self.assertEqual(answers(count, [(9972,)]), [(9972,)])
        self.assertEqual(answers(count, [(1,)] * 40), [(k,) for k in range(1, 41)])

    def test_earlier_rounds_do_not_hang_on_later_ones(self):
        inputs = [(k, 3 * k + 1) for k in range(40)]
        whole = answers(LOOP, inputs)
        for many in range(41):
            self.assertEqual(answers(LOOP, inputs[:many]), whole[:many])


class RefusedTest(unittest.TestCase):
    def refuse(self, inputs, loop=LOOP):
        with self.assertRaises(NoInputs):
            answers(loop, inputs)

    def test_rounds(self):
        self.refuse([(1, 2)] * 41)
        self.refuse([()] * 41, loop_of([work()]))
        self.refuse(((1, 2), (3, 4)))
        self.refuse(())

    def test_inputs_of_any_kind(self):
        no_lists = [thing for thing in STRANGE if not isinstance(thing, list)]
        for thing in no_lists + [[1], True, False, 0, 3, range(2), "ab"]:
            with self.subTest(kind=type(thing)):
                self.refuse(thing)

    def test_a_round_of_any_kind(self):
        for thing in STRANGE + [[1, 2], True, False, 0, "ab", {1: 2, 3: 4}, (1,), (1, 2, 3), [(1, 2)]]:
            with self.subTest(kind=type(thing)):
                self.refuse([thing])
                self.refuse([(1, 2), (3, 4), thing])
                self.refuse([thing, (1, 2)])

    def test_a_round_of_a_loop_without_streams(self):
        for thing in [None, [], {}, "", 0, False, (0,), ((),), Hostile()]:
            with self.subTest(kind=type(thing)):
                self.refuse([(), thing], loop_of([work()]))

    def test_values(self):
        for value in STRANGE + [-1, 9973, 10 ** 30, -(10 ** 30), True, False, "1"]:
            with self.subTest(kind=type(value)):
                self.refuse([(value, 0)])
                self.refuse([(0, value)])
                self.refuse([(0, 0)] * 39 + [(0, value)])

    def test_values_of_streams_that_nothing_hears(self):
        self.refuse([(9973,)], loop_of([work()], streams=1))

    def test_values_at_their_bounds(self):
        self.assertEqual(answers(LOOP, [(0, 9972)])[0][0], 5)
        self.assertEqual(answers(LOOP, [(9972, 0)])[0][0], 4)

    def test_no_loop_comes_ahead_of_no_inputs(self):
        wrong = STRANGE + [list(LOOP), LOOP[:3], replaced(LOOP, (3,), ()), replaced(LOOP, (0,), True)]
        for thing in wrong:
            for inputs in ([(1, 2)], [], None, [(1, 2)] * 41, [None], Hostile()):
                with self.subTest(kind=type(thing), inputs=type(inputs)):
                    with self.assertRaises(NoLoop):
                        answers(thing, inputs)

    def test_what_is_refused_is_not_changed(self):
        inputs = [(1, 2), [3, 4]]
        self.refuse(inputs)
        self.assertEqual(inputs, [(1, 2), [3, 4]])


class NewListsTest(unittest.TestCase):
    def test_what_is_handed_in_is_the_same_afterwards(self):
        loop, inputs = rebuilt(LOOP), [(1, 2), (3, 4), (5, 6)]
        before = copy.deepcopy((loop, inputs))
        answers(loop, inputs)
        self.assertEqual((loop, inputs), before)

    def test_the_same_call_twice(self):
        for inputs in ([], [(1, 2), (3, 4), (5, 6)]):
            first, second = answers(LOOP, inputs), answers(LOOP, inputs)
            self.assertEqual(first, second)
            self.assertIsNot(first, second)
            self.assertIsNot(first, inputs)
            kept = list(second)
            first.append("more")
            self.assertEqual(second, kept)
            self.assertEqual(answers(LOOP, inputs), kept)

    def test_nothing_is_kept_of_the_inputs(self):
        inputs = [(1, 2), (3, 4)]
        told = answers(LOOP, inputs)
        kept = list(told)
        inputs.append((5, 6))
        inputs[0] = (7, 8)
        self.assertEqual(told, kept)
        self.assertEqual(answers(LOOP, [(1, 2), (3, 4)]), kept)

    def test_equal_things_give_equal_answers(self):
        inputs = [(1, 2), (3, 4)]
        self.assertEqual(answers(LOOP, inputs), answers(rebuilt(LOOP), [rebuilt(given) for given in inputs]))

    def test_kinds(self):
        told = answers(LOOP, [(1, 2), (3, 4)])
        self.assertIsInstance(told, list)
        for row in told:
            self.assertIsInstance(row, tuple)
            self.assertEqual([type(value) for value in row], [int, int])


if __name__ == "__main__":
    unittest.main()
