"""Loops written down as texts, and read back."""

from roundlap.errors import NoText
from roundlap.loops import checked, is_loop

DIGITS = "0123456789"
MOST_DIGITS = 4
LEAST_WORDS = 8


def row_of(head, things):
    return " ".join([head] + [str(thing) for thing in things]) + "\n"


def source_text(source):
    if source[0] == "value":
        return str(source[1])
    if source[0] == "input":
        return "i" + str(source[1])
    return "w" + str(source[1]) + "-" + str(source[2])


def work_row(work):
    sources = [source_text(source) for source in work[3]]
    return row_of("work", list(work[:3]) + sources + ["/"] + list(work[4]))


def written(loop):
    rows = [row_of("streams", [loop[0]])]
    rows.extend([row_of("crew", crew) for crew in loop[1]])
    rows.extend([work_row(work) for work in loop[2]])
    rows.append(row_of("outs", loop[3]))
    return "".join(rows)


def shown(loop):
    return written(checked(loop))


def number_of(word):
    # No number of a loop has more digits; and Python would take other signs for digits, too.
    if not 1 <= len(word) <= MOST_DIGITS or not all([sign in DIGITS for sign in word]):
        return None
    return int(word)


def numbers_of(words):
    return tuple([number_of(word) for word in words])


def source_of(word):
    if word.startswith("i"):
        return ("input", number_of(word[1:]))
    if word.startswith("w"):
        halves = word[1:].partition("-")
        return ("work", number_of(halves[0]), number_of(halves[2]))
    return ("value", number_of(word))


def work_of(words):
    if len(words) < LEAST_WORDS:
        return None
    sources = tuple([source_of(word) for word in words[3:-4]])
    return (number_of(words[0]), number_of(words[1]), words[2], sources, numbers_of(words[-3:]))


def rows_headed(rows, head):
    return [row[1:] for row in rows if row[0] == head]


def loosely_read(text):
    rows = [line.split(" ") for line in text.split("\n")]
    streams = rows_headed(rows, "streams")
    outs = rows_headed(rows, "outs")
    if len(streams) != 1 or len(outs) != 1:
        return None
    crews = tuple([numbers_of(row) for row in rows_headed(rows, "crew")])
    works = tuple([work_of(row) for row in rows_headed(rows, "work")])
    return (number_of(" ".join(streams[0])), crews, works, numbers_of(outs[0]))


def read(text):
    if not isinstance(text, str):
        raise NoText("this is no text")
    loop = loosely_read(text)
    # Lines may have been read that are written otherwise, or stand elsewhere: all but the text itself is refused.
    if not is_loop(loop) or written(loop) != text:
        raise NoText("this is no loop's text")
    return loop
