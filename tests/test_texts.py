import random
import unittest

from roundlap.errors import NoLoop, NoText
from roundlap.loops import checked
from roundlap.texts import read, shown
from tests.oracles import WORDS, dressed_loops, plain_text
from tests.samples import LOOP, STRANGE, loop_of, part_of, paths_of, rebuilt, replaced, work

TEXT = """streams 2
crew 1 2
crew 2 1
work 0 3 plus i0 5 / 1 2 3
work 1 1 times w0-0 w1-1 i1 / 4 5 6
work 0 2 less w2-3 w1-0 / 7 8 9
outs 0 2
"""
SMALL = "streams 0\ncrew 1 1\nwork 0 1 plus 1 / 0 0 0\nouts 0\n"

# Whole numbers at the bounds: each is the most of its kind.
GREATEST = (
    6,
    ((3, 4),) * 3,
    ((2, 8, "greatest", (("value", 9972), ("input", 5), ("work", 7, 3)), (9972, 9972, 9972)),) * 8,
    (0, 1, 2, 3, 4, 5, 6, 7),
)


def small(line, other):
    """The small text with another line in one's place."""
    found = SMALL.replace(line, other)
    assert found != SMALL
    return found


class ShownTest(unittest.TestCase):
    def test_a_loop(self):
        self.assertEqual(shown(LOOP), TEXT)

    def test_the_least_and_the_greatest(self):
        self.assertEqual(shown(loop_of([work()])), SMALL)
        self.assertEqual(shown(GREATEST), "streams 6\n" + "crew 3 4\n" * 3 + (
            "work 2 8 greatest 9972 i5 w7-3 / 9972 9972 9972\n" * 8
        ) + "outs 0 1 2 3 4 5 6 7\n")

    def test_each_word(self):
        for doing in WORDS:
            expected = f"streams 0\ncrew 1 1\nwork 0 1 {doing} 1 / 0 0 0\nouts 0\n"
            self.assertEqual(shown(loop_of([work(doing=doing)])), expected)

    def test_each_source(self):
        for source, written in [
            (("value", 0), "0"), (("value", 10), "10"), (("value", 9972), "9972"), (("input", 0), "i0"), (("input", 5), "i5"),
            (("work", 0, 1), "w0-1"), (("work", 1, 2), "w1-2"), (("work", 1, 3), "w1-3"), (("work", 0, 0), "w0-0"),
        ]:
            loop = loop_of([work(), work((source,))], streams=6)
            self.assertEqual(shown(loop).split("\n")[3], f"work 0 1 plus {written} / 0 0 0")
            self.assertEqual(read(shown(loop)), loop)

    def test_each_number_of_crews_and_of_sources(self):
        for many in (1, 2, 3):
            loop = loop_of([work((("value", 7),) * many, crew=many - 1)], crews=((3, 4),) * many)
            self.assertEqual(shown(loop), "streams 0\n" + "crew 3 4\n" * many + (
                f"work {many - 1} 1 plus" + " 7" * many + " / 0 0 0\nouts 0\n"
            ))

    def test_the_order_of_starts_and_outs(self):
        loop = loop_of([work(starts=(3, 1, 2)), work(), work()], (1, 2))
        self.assertIn("/ 3 1 2\n", shown(loop))
        self.assertTrue(shown(loop).endswith("\nouts 1 2\n"))

    def test_compared(self):
        for loop in dressed_loops(91, 300, 1, 8):
            self.assertEqual(shown(loop), plain_text(loop))

    def test_kind(self):
        self.assertIs(type(shown(LOOP)), str)

    def test_what_is_no_loop(self):
        for thing in STRANGE + [TEXT, list(LOOP), LOOP[:3], replaced(LOOP, (0,), True), replaced(LOOP, (2, 0, 2), "PLUS")]:
            with self.assertRaises(NoLoop):
                shown(thing)


class ReadTest(unittest.TestCase):
    def test_what_is_shown_is_read_back(self):
        self.assertEqual(read(TEXT), LOOP)
        self.assertEqual(read(SMALL), loop_of([work()]))
        self.assertEqual(read(shown(GREATEST)), GREATEST)
        for loop in dressed_loops(92, 300, 1, 8):
            self.assertEqual(read(shown(loop)), loop)

    def test_each_word(self):
        for doing in WORDS:
            self.assertEqual(read(plain_text(loop_of([work(doing=doing)]))), loop_of([work(doing=doing)]))

    def test_kinds(self):
        told = read(TEXT)
        for kind in (int, str, tuple):
            self.assertEqual(paths_of(told, kind), paths_of(LOOP, kind))
        for path in paths_of(told, object):
            self.assertIn(type(part_of(told, path)), (int, str, tuple))

    def test_read_twice(self):
        self.assertEqual(read(TEXT), read(TEXT[:10] + TEXT[10:]))


class RefusedTest(unittest.TestCase):
    def refuse(self, texts):
        for text in texts:
            with self.subTest(text=text):
                with self.assertRaises(NoText):
                    read(text)

    def test_no_text(self):
        endless = []
        endless.append(endless)
        self.refuse(STRANGE + [
            0, 1, True, False, LOOP, [TEXT], (TEXT,), {TEXT: TEXT}, TEXT.encode(), bytearray(TEXT.encode()), TEXT.split("\n"),
            endless,
        ])

    def test_texts_that_are_no_lines_of_a_loop(self):
        self.refuse(["", "\n", " ", "\n\n", "x", "streams", "streams\n", "streams 0", "streams 0\n", "outs 0\n", "loop\n", "\0"])
        self.refuse(["streams 0\nouts 0\n", "crew\n", "work\n", "outs\n", "streams\ncrew\nwork\nouts\n", "/\n", "0\n" * 4])

    def test_line_ends(self):
        for text in (SMALL, TEXT):
            self.refuse([text[:-1], text + "\n", "\n" + text, text + text, text + " ", text + "\n\n", text[:-1] + " \n"])
            self.refuse([text[:place] + "\n" + text[place:] for place in range(len(text) + 1)])
            self.refuse([text.replace("\n", end) for end in (
                "\r\n", "\r", "\n\r", "\v", "\f", "\x1c", "\x85", "\u2028", "\u2029", "\n\n", " ", "", ";",
            )])
            self.refuse([text[:-1] + end for end in ("\r\n", "\r", "\v", "\f", "\x1c", "\x85", "\u2028", "\u2029")])
            self.refuse([text.replace("\n", end, 1) for end in ("\r\n", "\r", "\v", "\x85", "\u2028")])

    def test_blanks(self):
        for text in (SMALL, TEXT):
            lines = text.split("\n")[:-1]
            for place, line in enumerate(lines):
                for other in (" " + line, line + " ", "\t" + line, line + "\t", line.replace(" ", "  ", 1),
                              line.replace(" ", "\t", 1), line.replace(" ", "\u00a0", 1), line.replace(" ", "", 1)):
                    self.refuse(["\n".join(lines[:place] + [other] + lines[place + 1:]) + "\n"])
            # Each blank doubled, or another sign in its place.
            blanks = [place for place, sign in enumerate(text) if sign == " "]
            self.refuse([text[:place] + other + text[place + 1:] for place in blanks for other in (
                "  ", "", "\t", "\u00a0", "\u2003", "\v", "_", ",", "\n", " \n",
            )])

    def test_numbers_otherwise_written(self):
        digits = [place for place, sign in enumerate(TEXT) if sign in "0123456789"]
        self.refuse([TEXT[:place] + sign + TEXT[place:] for place in digits for sign in ("+", "-", "0", "00", "_", ".", "0x")])
        self.refuse([TEXT[:place + 1] + more + TEXT[place + 1:] for place in digits for more in (".0", "_", "e0", "L", "-", "+")])
        self.refuse([small("/ 0 0 0", "/ 1_0 0 0"), small("/ 0 0 0", "/ 00 0 0"), small("/ 0 0 0", "/ -0 0 0")])
        self.refuse([small("plus 1", "plus " + number) for number in (
            "01", "+1", "-1", "0001", "00001", "1.", "1e0", "0x1", "0b1", "1j", "one", "", "\u00bd", "True", "None", "9" * 5000,
        )])

    def test_digits_that_are_not_0_to_9(self):
        # Arabic, Devanagari, wide, raised, ringed, and a mathematical digit one.
        for one in ("\u0661", "\u0967", "\uff11", "\u00b9", "\u2460", "\U0001d7cf"):
            self.refuse([small("plus 1", "plus " + one), small("crew 1 1", f"crew {one} 1"), small("crew 1 1", f"crew 1 {one}")])
            self.refuse([TEXT.replace("w1-1", f"w1-{one}"), TEXT.replace("w1-1", f"w{one}-1"), TEXT.replace("i1", "i" + one)])
            self.refuse([TEXT.replace("work 1", "work " + one), TEXT.replace("1 2 3", one + " 2 3")])
        self.refuse([small("outs 0", "outs \u0660"), small("streams 0", "streams \uff10")])

    def test_lines_in_another_order(self):
        lines = TEXT.split("\n")[:-1]
        chance = random.Random(93)
        for number in range(200):
            other = list(lines)
            chance.shuffle(other)
            # Two works or crews changed for one another may be another loop, which is then written so.
            self.only_itself("\n".join(other) + "\n")
        # A crew behind a work, the outs ahead of the works, the streams last.
        for order in [(1, 0, 2, 3, 4, 5, 6), (0, 1, 3, 2, 4, 5, 6), (0, 1, 2, 6, 3, 4, 5), (1, 2, 3, 4, 5, 6, 0),
                      (0, 3, 4, 5, 1, 2, 6), (6, 0, 1, 2, 3, 4, 5), (0, 6, 1, 2, 3, 4, 5)]:
            self.refuse(["\n".join([lines[place] for place in order]) + "\n"])

    def test_a_line_too_many_or_too_few(self):
        for text in (SMALL, TEXT):
            lines = text.split("\n")[:-1]
            for place, line in enumerate(lines):
                if line.startswith(("streams", "outs")):
                    self.refuse(["\n".join(lines[:place] + [line] + lines[place:]) + "\n"])
                    self.refuse(["\n".join(lines[:place] + lines[place + 1:]) + "\n"])
                for other in ("more", "", "crews 1 1", "# why", "outs 0", "streams 2"):
                    self.refuse(["\n".join(lines[:place] + [other] + lines[place:]) + "\n"])
        self.refuse([small("crew 1 1\n", ""), small("work 0 1 plus 1 / 0 0 0\n", ""), small("crew 1 1\n", "crew 1 1\n" * 4)])
        self.refuse([small("work 0 1 plus 1 / 0 0 0\n", "work 0 1 plus 1 / 0 0 0\n" * 9)])

    def test_words_too_many_or_too_few(self):
        lines = TEXT.split("\n")[:-1]
        for place, line in enumerate(lines):
            words = line.split(" ")
            for where in range(len(words)):
                fewer = " ".join(words[:where] + words[where + 1:])
                twice = " ".join(words[:where] + [words[where]] + words[where:])
                for other in (fewer, twice):
                    self.only_itself("\n".join(lines[:place] + [other] + lines[place + 1:]) + "\n")
        self.refuse([small("streams 0", other) for other in ("streams", "streams ", "streams 0 0", "streams 0 1", "streams /")])
        self.refuse([small("crew 1 1", other) for other in ("crew", "crew 1", "crew 1 1 1", "crew 1 /", "crew 1 1 /")])
        self.refuse([small("outs 0", other) for other in ("outs", "outs ", "outs /", "outs 0 /", "outs 0 0")])
        self.refuse([small("work 0 1 plus 1 / 0 0 0", other) for other in (
            "work", "work 0", "work 0 1", "work 0 1 plus", "work 0 1 plus 1", "work 0 1 plus 1 /", "work 0 1 plus 1 / 0 0",
            "work 0 1 plus 1 / 0 0 0 0", "work 0 1 plus / 0 0 0", "work 0 1 plus 1 1 1 1 / 0 0 0", "work 0 1 plus 1 0 0 0",
            "work 0 1 plus 1 / / 0 0 0", "work 0 1 plus 1 0 0 0 /", "work 0 1 plus / 1 0 0 0", "work 0 1 1 plus / 0 0 0",
            "work 0 1 plus 1 | 0 0 0", "work 0 1 plus 1 // 0 0 0", "work 0 1 plus 1/ 0 0 0", "work 0 1 plus 1 /0 0 0",
            "work 0 1 plus 1 \\ 0 0 0", "work 0 1 1 / 0 0 0", "work 0 plus 1 / 0 0 0",
        )])

    def test_sources_otherwise_written(self):
        source = "w1-1"
        self.refuse([TEXT.replace(source, other) for other in (
            "w1", "w1-", "w-1", "w", "w-", "w1--1", "w1-1-", "w1-1-1", "w1 1", "w 1-1", "w1 -1", "w1- 1", "w1+1", "w11", "W1-1",
            "w01-1", "w1-01", "w1_1", "w1-1/", "1-1", "ww1-1", "i1-1", "w1-i1", "wi-1", "v1", "work1-1", "w1\u20131", "w1.1",
        )])
        self.refuse([TEXT.replace(" i1", other) for other in (
            " i", " i-1", " I1", " i01", " i+1", " i 1", " ii1", " 1i", " i1-0", " input1", " i1i", " \u01311", " j1", " i1.0",
        )])

    def test_words_of_other_letters(self):
        self.refuse([small("plus", other) for other in (
            "Plus", "PLUS", "add", "plu", "pluss", "+", "less ", "minus", "max", "plus\u200b", "p\u217cus", "\uff50lus",
            "1", "/", "",
        )])
        for word in ("streams", "crew", "work", "outs"):
            self.refuse([small(word, other) for other in (
                word.upper(), word.capitalize(), word[:-1], word + "s", word + ":", "x", "", word + "\u200b", "\ufeff" + word,
            )])
        self.refuse(["\ufeff" + TEXT, TEXT + "\0", TEXT + "\x1a", "\ud800" + TEXT, TEXT.upper(), TEXT.title()])

    def test_what_would_be_no_loop(self):
        for path, parts in [
            ((0,), [7, 10, 99]), ((0,), [1]), ((1,), [(), ((1, 1),) * 4, ((1, 1),)]), ((1, 0, 0), [0, 4, 10]),
            ((1, 0, 1), [0, 5, 10]), ((2,), [(), (LOOP[2][0],) * 9]), ((2, 0, 0), [2, 3]), ((2, 0, 1), [0, 9, 10]),
            ((2, 0, 2), ["most", "Plus", ""]), ((2, 0, 3), [(), (("value", 1),) * 4]), ((2, 0, 4), [(), (1, 2), (1, 2, 3, 4)]),
            ((2, 0, 4, 0), [9973, 9999, 10000]), ((2, 0, 4, 2), [9973]), ((2, 0, 3, 1), [("value", 9973), ("value", 10 ** 9)]),
            ((2, 0, 3, 0), [("input", 2), ("input", 6), ("work", 0, 0), ("work", 1, 0), ("work", 3, 1), ("work", 2, 4)]),
            ((2, 1, 3, 0), [("work", 1, 0), ("work", 2, 0), ("work", 3, 0), ("work", 8, 3), ("work", 0, 10)]),
            ((3,), [(), (3,), (0, 0), (2, 0), (0, 1, 3), (1, 1), (0, 1, 2, 2), (0, 1, 1)]),
        ]:
            for part in parts:
                thing = replaced(LOOP, path, part)
                with self.assertRaises(NoLoop):
                    checked(thing)
                self.refuse([plain_text(thing)])

    def only_itself(self, text):
        """It is refused, or a loop's own text."""
        try:
            loop = read(text)
        except NoText:
            return False
        self.assertEqual(plain_text(checked(loop)), text)
        return True

    def test_each_sign_left_out_changed_or_put_in(self):
        kept = 0
        for place in range(len(TEXT) + 1):
            kept += self.only_itself(TEXT[:place] + TEXT[place + 1:])
            for sign in "0123456789 \n/-iwpst\t+\r\u0661":
                kept += self.only_itself(TEXT[:place] + sign + TEXT[place:])
                kept += self.only_itself(TEXT[:place] + sign + TEXT[place + 1:])
        self.assertGreater(kept, 100)

    def test_words_at_random(self):
        chance = random.Random(94)
        words = TEXT.replace("\n", " \n ").split(" ") + ["0", "1", "/", "\n", "", "w0-1", "i0"]
        for number in range(3000):
            tokens = TEXT.replace("\n", " \n ").split(" ")
            for change in range(chance.randint(1, 3)):
                tokens[chance.randrange(len(tokens))] = chance.choice(words)
            self.only_itself(" ".join(tokens).replace(" \n ", "\n").replace(" \n", "\n"))

    def test_long_texts(self):
        self.refuse([TEXT * 1000, "\n" * 100000, " " * 100000, "9" * 100000, small("plus 1", "plus" + " 1" * 100000)])
        self.refuse([small("crew 1 1\n", "crew 1 1\n" * 10000), small("outs 0", "outs 0" + " 1" * 10000)])


class EqualTest(unittest.TestCase):
    def test_equal_loops_shown(self):
        self.assertEqual(shown(rebuilt(LOOP)), shown(LOOP))


if __name__ == "__main__":
    unittest.main()
