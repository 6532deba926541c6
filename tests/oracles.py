"""Slow and plain answers to compare with, and loops at random (always the same ones)."""

import itertools
import random

from tests.samples import loop_of, work


def loops_at_random(seed, many, least_works, most_works, most_long=8):
    chance = random.Random(seed)
    for number in range(many):
        yield loop_at_random(chance, chance.randint(least_works, most_works), most_long)


def loop_at_random(chance, many_works, most_long=8, crews=None):
    if crews is None:
        crews = tuple([(chance.choice((1, 1, 2, 3)), chance.randint(1, 4)) for k in range(chance.choice((1, 1, 2, 3)))])
    works = []
    for own in range(many_works):
        sources = tuple([source_at_random(chance, own, many_works) for k in range(chance.randint(1, 3))])
        works.append(work(sources, crew=chance.randrange(len(crews)), long=chance.randint(1, most_long)))
    return loop_of(works, (0,), 0, crews)


def source_at_random(chance, own, many_works):
    if chance.random() < 0.1:
        return ("value", 1)
    back = chance.choice((0, 0, 0, 1, 1, 2, 3))
    if back == 0 and own > 0:
        return ("work", chance.randrange(own), 0)
    return ("work", chance.randrange(many_works), max(back, 1))


def plain_needs(loop):
    found = {(s[1], behind, s[2]) for behind, w in enumerate(loop[2]) for s in w[3] if s[0] == "work"}
    return sorted(found)


def keeps_needs(loop, gap, plan):
    """Asked of the beginnings themselves, of a round far from the first one."""
    for ahead, behind, back in plain_needs(loop):
        there = (10 - back) * gap + plan[ahead] + loop[2][ahead][1]
        if 10 * gap + plan[behind] < there:
            return False
    return True


def busy_at(loop, gap, plan, crew, time):
    """The machines of a crew that are busy at a time, of rounds without beginning and end."""
    busy = 0
    for begin, w in zip(plan, loop[2]):
        if w[0] == crew:
            span = loop[1][crew][1]
            for number in range((time - begin - span) // gap - 1, (time - begin) // gap + 2):
                if number * gap + begin <= time < number * gap + begin + span:
                    busy += 1
    return busy


def plain_wrong(loop, gap, plan):
    for need in plain_needs(loop):
        ahead, behind, back = need
        if plan[behind] + back * gap < plan[ahead] + loop[2][ahead][1]:
            return ("need", need)
    for crew, (many, busy) in enumerate(loop[1]):
        for rest in range(gap):
            # A time of this rest that is as late as the plan.
            if busy_at(loop, gap, plan, crew, 1000 * gap + rest) > many:
                return ("crew", crew, rest)
    return None


def all_rings(loop):
    """Every ring of the loop, each from each of its works on."""
    found = []
    grown = [[need] for need in plain_needs(loop)]
    while grown:
        found.extend([walk for walk in grown if walk[-1][1] == walk[0][0]])
        longer = []
        for walk in grown:
            used = [need[0] for need in walk]
            longer.extend([walk + [n] for n in plain_needs(loop) if n[0] == walk[-1][1] and n[0] not in used])
        grown = longer
    return found


def ring_bars(loop, gap, ring):
    return sum([loop[2][need[0]][1] for need in ring]) > gap * sum([need[2] for need in ring])


def crew_bars(loop, gap, crew):
    many, busy = loop[1][crew]
    return busy * [w[0] for w in loop[2]].count(crew) > gap * many


def has_stages(loop, gap, rests):
    """Whether works that begin at these rests can be moved by whole gaps so that every need is kept."""
    stages = [0] * len(rests)
    for step in range(len(rests) + 1):
        changed = False
        for ahead, behind, back in plain_needs(loop):
            late = rests[ahead] + loop[2][ahead][1] - back * gap - rests[behind]
            least = stages[ahead] + -(-late // gap)
            if stages[behind] < least:
                stages[behind] = least
                changed = True
        if not changed:
            return True
    return False


def is_crowded(loop, gap, rests):
    for crew, (many, busy) in enumerate(loop[1]):
        used = [0] * gap
        for rest, w in zip(rests, loop[2]):
            for later in range(busy if w[0] == crew else 0):
                used[(rest + later) % gap] += 1
        if max(used) > many:
            return True
    return False


def has_plan(loop, gap):
    """Tries every rest of every work, but the first one's."""
    for others in itertools.product(range(gap), repeat=len(loop[2]) - 1):
        rests = (0,) + others
        if not is_crowded(loop, gap, rests) and has_stages(loop, gap, rests):
            return True
    return False


def keeps_in_boxes(loop, gap, plan, need, many):
    """Whether each of many answers is still in its box when the need's work behind begins, time by time."""
    ahead, behind, back = need
    boxes = [None] * many
    rounds = many + 4 + (max(plan) + 8) // gap
    puts, takes = {}, {}
    for number in range(rounds):
        puts.setdefault(number * gap + plan[ahead] + loop[2][ahead][1], []).append(number)
        takes.setdefault((number + back) * gap + plan[behind], []).append(number)
    # Beyond the last one's answer no more are put, so that nothing could be told of later ones.
    for time in range(min(puts), max(puts) + 1):
        for number in puts.get(time, []):
            boxes[number % many] = number
        for number in takes.get(time, []):
            if boxes[number % many] != number:
                return False
    return True


def plain_boxes(loop, gap, plan):
    """For each work the least boxes that keep its answers."""
    told = []
    for own in range(len(loop[2])):
        many = 1
        while not all([keeps_in_boxes(loop, gap, plan, n, many) for n in plain_needs(loop) if n[0] == own]):
            many += 1
        told.append(many)
    return tuple(told)
