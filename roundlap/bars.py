"""What bars a gap: rings of needs that are too long for it, and crews with too much to do."""

from roundlap.loops import MOST_WORKS, checked, is_row, is_whole, needs
from roundlap.plans import checked_gap


def longs_of(loop, walk):
    return sum([loop[2][need[0]][1] for need in walk])


def backs_of(walk):
    return sum([need[2] for need in walk])


def surplus(loop, gap, walk):
    return longs_of(loop, walk) - gap * backs_of(walk)


def longest_walks(loop, gap, walks):
    # Of the walks between the same two works the others can't be part of a ring that bars by more.
    kept = {}
    for walk in walks:
        ends = (walk[0][0], walk[-1][1])
        if ends not in kept or surplus(loop, gap, kept[ends]) < surplus(loop, gap, walk):
            kept[ends] = walk
    return kept


def lengthened(walks, steps):
    longer = []
    for walk in walks:
        longer.extend([walk + [step] for step in steps if step[0] == walk[-1][1]])
    return longer


def barring_ring(loop, gap):
    # A closed walk that bars and comes to a work twice is two shorter ones, of which one bars.
    # So the first that is found, the walks growing need by need, comes to no work twice: it is a ring.
    steps = needs(loop)
    walks = [[step] for step in steps]
    for grown in range(len(loop[2])):
        kept = longest_walks(loop, gap, walks)
        for ends in kept:
            if ends[0] == ends[1] and surplus(loop, gap, kept[ends]) > 0:
                return kept[ends]
        walks = lengthened(list(kept.values()), steps)
    return None


def ring(loop, gap):
    checked(loop)
    return barring_ring(loop, checked_gap(gap))


def crew_times(loop, crew):
    return loop[1][crew][1] * len([work for work in loop[2] if work[0] == crew])


def barring_crew(loop, gap):
    for crew, machines in enumerate(loop[1]):
        if crew_times(loop, crew) > gap * machines[0]:
            return crew
    return None


def crowd(loop, gap):
    checked(loop)
    return barring_crew(loop, checked_gap(gap))


def is_need(thing, known):
    # A tuple with True in it is equal to one with 1, so its parts' kinds are asked first.
    return is_row(thing, 3, 3) and all([is_whole(part, 0, MOST_WORKS) for part in thing]) and thing in known


def is_ring(thing, known):
    if not isinstance(thing, list) or not 1 <= len(thing) <= MOST_WORKS:
        return False
    if not all([is_need(part, known) for part in thing]):
        return False
    ahead = [need[0] for need in thing]
    behind = [need[1] for need in thing]
    return behind == ahead[1:] + ahead[:1] and len(set(ahead)) == len(ahead)


def is_bar(loop, gap, thing):
    known = needs(loop)
    checked_gap(gap)
    return is_ring(thing, known) and surplus(loop, gap, thing) > 0


def rounded_up(number, divisor):
    return -(-number // divisor)


def ring_gap(loop):
    checked(loop)
    gap = 1
    barring = barring_ring(loop, gap)
    while barring is not None:
        # The ring bars every gap below this one, so none of them need be tried.
        gap = rounded_up(longs_of(loop, barring), backs_of(barring))
        barring = barring_ring(loop, gap)
    return gap


def crew_gap(loop):
    checked(loop)
    return max([rounded_up(crew_times(loop, crew), machines[0]) for crew, machines in enumerate(loop[1])])
