"""The answers of a loop that goes plainly, one round after the other."""

from roundlap.errors import NoInputs
from roundlap.loops import MOST_BACK, REST, checked, is_row, is_value

MOST_ROUNDS = 40


def is_given(thing, streams):
    return is_row(thing, streams, streams) and all([is_value(value) for value in thing])


def are_inputs(thing, streams):
    if not isinstance(thing, list) or len(thing) > MOST_ROUNDS:
        return False
    return all([is_given(given, streams) for given in thing])


def checked_inputs(loop, inputs):
    if not are_inputs(inputs, loop[0]):
        raise NoInputs("these are no inputs of the loop")
    return inputs


def product(taken):
    found = 1
    for value in taken:
        found = found * value
    return found


def outcome(doing, taken):
    if doing == "plus":
        return sum(taken) % REST
    if doing == "less":
        return (taken[0] - sum(taken[1:])) % REST
    if doing == "times":
        return product(taken) % REST
    if doing == "least":
        return min(taken)
    return max(taken)


def start_rows(works):
    # The earliest round comes first, so that the row of so many rounds back is found from the end.
    rows = []
    for back in range(MOST_BACK, 0, -1):
        rows.append([work[4][back - 1] for work in works])
    return rows


def source_value(source, rows, given):
    if source[0] == "value":
        return source[1]
    if source[0] == "input":
        return given[source[1]]
    return rows[-1 - source[2]][source[1]]


def answers(loop, inputs):
    works = checked(loop)[2]
    rows = start_rows(works)
    told = []
    for given in checked_inputs(loop, inputs):
        row = []
        # The row is there ahead of its answers: works of this round are sources with back 0.
        rows.append(row)
        for work in works:
            row.append(outcome(work[2], [source_value(source, rows, given) for source in work[3]]))
        told.append(tuple([row[number] for number in loop[3]]))
    return told
