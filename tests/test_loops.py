import unittest

from roundlap.errors import NoLoop
from roundlap.loops import checked, needs
from tests.samples import LOOP, STRANGE, Hostile, loop_of, part_of, paths, paths_of, rebuilt, replaced, work

WORDS = ("plus", "less", "times", "least", "greatest")

# (what, a loop, the path of a number in it, its least, its greatest), all else in the loop fitting both.
ROOMY = loop_of([work((("work", 0, 1),)), work((("work", 0, 1), ("value", 7))), work()], (1,), 0, ((1, 1), (1, 1)))
LISTENING = loop_of([work((("input", 0),))], streams=4)
BOUNDS = [
    ("streams", ROOMY, (0,), 0, 6),
    ("many", LOOP, (1, 0, 0), 1, 3),
    ("many of a later crew", LOOP, (1, 1, 0), 1, 3),
    ("busy", LOOP, (1, 0, 1), 1, 4),
    ("busy of a later crew", LOOP, (1, 1, 1), 1, 4),
    ("crew", ROOMY, (2, 0, 0), 0, 1),
    ("crew of the last work", ROOMY, (2, 2, 0), 0, 1),
    ("long", LOOP, (2, 0, 1), 1, 8),
    ("long of the last work", LOOP, (2, 2, 1), 1, 8),
    ("value", LOOP, (2, 0, 3, 1, 1), 0, 9972),
    ("stream", LISTENING, (2, 0, 3, 0, 1), 0, 3),
    ("work of an earlier round", ROOMY, (2, 1, 3, 0, 1), 0, 2),
    ("work of the same round", replaced(ROOMY, (2, 2, 3, 0), ("work", 0, 0)), (2, 2, 3, 0, 1), 0, 1),
    ("back to an earlier work", ROOMY, (2, 1, 3, 0, 2), 0, 3),
    ("back to itself", ROOMY, (2, 0, 3, 0, 2), 1, 3),
    ("back to a later work", replaced(ROOMY, (2, 0, 3, 0, 1), 2), (2, 0, 3, 0, 2), 1, 3),
    ("first start", LOOP, (2, 0, 4, 0), 0, 9972),
    ("second start", LOOP, (2, 1, 4, 1), 0, 9972),
    ("third start", LOOP, (2, 2, 4, 2), 0, 9972),
    ("an out", ROOMY, (3, 0), 0, 2),
]

# (what, a way from a number to a loop with so many of them, the least and the greatest number)
COUNTS = [
    ("crews", lambda many: loop_of([work()], crews=((1, 1),) * many, outs=(0,)), 1, 3),
    ("works", lambda many: loop_of([work()] * many, outs=(0,)), 1, 8),
    ("sources", lambda many: loop_of([work((("value", 1),) * many)]), 1, 3),
    ("outs", lambda many: loop_of([work()] * 8, outs=tuple(range(many))), 1, 8),
]


class LoopCase(unittest.TestCase):
    def accept(self, loop):
        self.assertEqual(checked(loop), rebuilt(loop))

    def refuse(self, thing):
        with self.assertRaises(NoLoop):
            checked(thing)
        with self.assertRaises(NoLoop):
            needs(thing)


class IsLoopTest(LoopCase):
    def test_tells_the_loop(self):
        before = rebuilt(LOOP)
        self.assertEqual(checked(LOOP), before)
        self.assertEqual(checked(rebuilt(LOOP)), checked(LOOP))
        self.assertEqual(LOOP, before)

    def test_numbers_at_their_bounds(self):
        for what, loop, path, low, high in BOUNDS:
            for number in (low, low + 1, high - 1, high):
                with self.subTest(what, number=number):
                    self.accept(replaced(loop, path, number))

    def test_lengths_at_their_bounds(self):
        for what, make, low, high in COUNTS:
            for many in range(low, high + 1):
                with self.subTest(what, many=many):
                    self.accept(make(many))

    def test_words(self):
        for word in WORDS:
            with self.subTest(word):
                self.accept(loop_of([work(doing=word)]))

    def test_all_at_the_greatest(self):
        source = ("work", 7, 3)
        works = [work((source, source, source), (9972, 9972, 9972), "greatest", 2, 8)] * 8
        self.accept(loop_of(works, streams=6, crews=((3, 4),) * 3))

    def test_sources_of_itself_and_of_later_works(self):
        for back in (1, 2, 3):
            with self.subTest(back=back):
                self.accept(loop_of([work((("work", 0, back), ("work", 1, back))), work()]))

    def test_outs_of_one_and_of_all(self):
        for outs in ((0,), (2,), (0, 2), (0, 1, 2)):
            with self.subTest(outs=outs):
                self.accept(loop_of([work()] * 3, outs))


class IsNoLoopTest(LoopCase):
    def test_numbers_beyond_their_bounds(self):
        for what, loop, path, low, high in BOUNDS:
            for number in (low - 1, high + 1, -(10 ** 30), 10 ** 30):
                with self.subTest(what, number=number):
                    self.refuse(replaced(loop, path, number))

    def test_lengths_beyond_their_bounds(self):
        for what, make, low, high in COUNTS:
            for many in (low - 1, high + 1):
                with self.subTest(what, many=many):
                    self.refuse(make(many))

    def test_true_and_false_are_no_numbers(self):
        for path in paths_of(LOOP, int):
            for truth in (True, False):
                with self.subTest(path=path, truth=truth):
                    self.refuse(replaced(LOOP, path, truth))

    def test_a_list_for_each_tuple(self):
        for path in paths_of(LOOP, tuple):
            with self.subTest(path=path):
                self.refuse(replaced(LOOP, path, list(part_of(LOOP, path))))

    def test_things_of_any_kind_for_each_part(self):
        for path in paths(LOOP):
            for thing in STRANGE + [-1, 10 ** 30]:
                with self.subTest(path=path, thing=type(thing)):
                    self.refuse(replaced(LOOP, path, thing))

    def test_parts_too_many_and_too_few(self):
        fixed = [(), (1, 0), (1, 1), (2, 0), (2, 2), (2, 0, 3, 0), (2, 0, 3, 1), (2, 1, 3, 0), (2, 0, 4), (2, 2, 4)]
        for path in fixed:
            part = part_of(LOOP, path)
            for wrong in (part[:-1], part[1:], part[:1], (), part + (0,), part + part[-1:], (1,) + part):
                with self.subTest(path=path, wrong=wrong):
                    self.refuse(replaced(LOOP, path, wrong))

    def test_things_of_any_kind_behind_the_parts(self):
        for path in paths_of(LOOP, tuple):
            for thing in STRANGE:
                with self.subTest(path=path, thing=type(thing)):
                    self.refuse(replaced(LOOP, path, part_of(LOOP, path) + (thing,)))

    def test_words_that_are_none(self):
        for word in ("minus", "Plus", "plus ", " plus", "", "pl", "most", "value", 0):
            with self.subTest(word):
                self.refuse(loop_of([work(doing=word)]))

    def test_sources_that_are_none(self):
        wrong = [
            ("start", 0), ("Value", 0), ("values", 0), ("", 0), ("works", 0, 1), (0, 0), ("value",), ("input",), ("work",),
            ("value", 0, 0), ("value", 0, 1), ("input", 0, 0), ("input", 0, 1), ("work", 0), ("work", 0, 1, 0),
            ("plus", 0, 1), ("value", 0, None), ("work", "0", 1), ("work", 0, "1"), ("input", "0"), ("value", "0"),
            (Hostile(), 0), (Hostile(), 0, 1), "value", "work", ("work", 0, None), ("value", None),
        ]
        for source in wrong:
            for sources in ((source,), (("value", 1), source), (source, ("value", 1)), (("value", 1), ("value", 2), source)):
                with self.subTest(sources=repr(sources)):
                    self.refuse(loop_of([work(sources)], streams=6))

    def test_streams_that_are_not_there(self):
        for streams in range(6):
            with self.subTest(streams=streams):
                self.refuse(loop_of([work((("input", streams),))], streams=streams))
                self.accept(loop_of([work((("input", streams),))], streams=streams + 1))

    def test_works_that_are_not_there(self):
        for back in (0, 1, 2, 3):
            for number in (-1, 2, 8):
                with self.subTest(back=back, number=number):
                    self.refuse(loop_of([work(), work((("work", number, back),))]))

    def test_back_0_of_itself_and_of_later_works(self):
        for own in range(3):
            for number in range(3):
                works = [work(), work(), work()]
                works[own] = work((("work", number, 0),))
                with self.subTest(own=own, number=number):
                    if number < own:
                        self.accept(loop_of(works))
                    else:
                        self.refuse(loop_of(works))

    def test_outs_that_are_none(self):
        for outs in ((), (1, 0), (0, 0), (0, 1, 1), (0, 2, 1), (0, 3), (3,), (-1,), (-1, 0), (0, 1, 2, 3), (None, 1), (0, "1")):
            with self.subTest(outs=outs):
                self.refuse(loop_of([work()] * 3, outs))

    def test_a_thing_that_holds_itself(self):
        endless = []
        endless.append(endless)
        self.refuse(endless)
        self.refuse((0, endless, endless, endless))

    def test_nothing_that_is_handed_in_is_changed(self):
        wrong = [2, [[1, 2]], [], [0]]
        self.refuse(wrong)
        self.assertEqual(wrong, [2, [[1, 2]], [], [0]])


class NeedsTest(unittest.TestCase):
    def test_rising(self):
        self.assertEqual(needs(LOOP), [(0, 1, 0), (1, 1, 1), (1, 2, 0), (2, 2, 3)])

    def test_rising_by_ahead_then_behind_then_back(self):
        loop = loop_of([
            work((("work", 2, 3), ("work", 2, 1), ("work", 0, 2))),
            work((("work", 2, 2), ("work", 0, 3), ("work", 0, 0))),
            work((("work", 1, 0), ("work", 0, 0), ("work", 1, 3))),
        ])
        self.assertEqual(needs(loop), [
            (0, 0, 2), (0, 1, 0), (0, 1, 3), (0, 2, 0), (1, 2, 0), (1, 2, 3), (2, 0, 1), (2, 0, 3), (2, 1, 2),
        ])

    def test_each_once(self):
        twice = work((("work", 0, 1), ("work", 0, 1), ("work", 0, 2)))
        self.assertEqual(needs(loop_of([twice, twice])), [(0, 0, 1), (0, 0, 2), (0, 1, 1), (0, 1, 2)])

    def test_none(self):
        loop = loop_of([work((("value", 3), ("input", 1))), work()], streams=2)
        self.assertEqual(needs(loop), [])

    def test_outs_make_no_difference(self):
        self.assertEqual(needs(replaced(LOOP, (3,), (0,))), needs(LOOP))

    def test_a_new_list_each_time(self):
        for loop in (LOOP, loop_of([work()])):
            first = needs(loop)
            kept = list(first)
            first.append("more")
            second = needs(loop)
            self.assertIsInstance(second, list)
            self.assertIsNot(first, second)
            self.assertEqual(second, kept)

    def test_equal_loops_have_equal_needs(self):
        before = rebuilt(LOOP)
        self.assertEqual(needs(LOOP), needs(rebuilt(LOOP)))
        self.assertEqual(LOOP, before)

    def test_kinds(self):
        for need in needs(LOOP):
            self.assertIsInstance(need, tuple)
            self.assertEqual([type(part) for part in need], [int, int, int])


if __name__ == "__main__":
    unittest.main()
